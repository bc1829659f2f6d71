"""What is without effect in a forest: leaves, trees and parts."""

from votewoods.boxes import asked_axes, sizes_of, told_inputs
from votewoods.forests import LEAF, check_forest, check_part
from votewoods.forms import answers_form
from votewoods.running import parted


def unreached(forest):
    """Return the pairs of the number of a tree and the way to a leaf of it to which no input comes."""
    check_forest(forest)
    kinds, _, trees = forest
    pairs = []
    for number, tree in enumerate(trees):
        # An input comes to a leaf just if the told input of its box does.
        givens = told_inputs(kinds, asked_axes(kinds, (tree,)))
        pairs.extend([(number, way) for way in unreached_ways(tree, "", givens)])
    return tuple(sorted(pairs))


def unreached_ways(tree, way, givens):
    """Return the ways to the leaves to which none of the inputs comes, all of which come to this tree."""
    if tree[0] == LEAF:
        return [way] if len(givens) == 0 else []
    first, second = parted(tree, givens)
    return unreached_ways(tree[3], way + "0", first) + unreached_ways(tree[4], way + "1", second)


def idle_trees(forest):
    """Return the numbers of the trees without which, each by itself, the answers are the same."""
    form = answers_form(forest)
    many = len(forest[2])
    if many == 1:
        return ()
    return tuple([number for number in range(many) if answers_form(without_tree(forest, number)) == form])


def without_tree(forest, number):
    """Return the forest without the tree that has this number."""
    kinds, answers, trees = forest
    return (kinds, answers, trees[:number] + trees[number + 1:])


def matters(forest, part):
    """Return whether there are two inputs with unlike answers that are unlike in this part alone."""
    check_forest(forest)
    check_part(forest, part)
    return part in parts_that_matter(forest)


def parts_that_matter(forest):
    """Return the numbers of the parts in which a change alone may change the answer."""
    axes, _ = answers_form(forest)
    sizes = sizes_of(forest[0], axes)
    return tuple([part for part, size in enumerate(sizes) if size > 1])
