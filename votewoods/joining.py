"""Joining forests, and making a forest one tree."""

from votewoods.boxes import asked_axes, told_inputs
from votewoods.errors import TooMany
from votewoods.forests import LEAF, MOST_TREES, check_forest, check_pair
from votewoods.running import added, parted


def joined(forest, other):
    """Return the forest with the trees of the first one, then those of the other one."""
    check_pair(forest, other)
    kinds, answers, trees = forest
    together = trees + other[2]
    if len(together) > MOST_TREES:
        raise TooMany("the forests have more than 4 trees together")
    return (kinds, answers, together)


def as_one(forest):
    """Return one tree that tells the same votes as the forest."""
    check_forest(forest)
    kinds, answers, trees = forest
    # Some input goes from a test to one of its trees just if a told input does.
    givens = told_inputs(kinds, asked_axes(kinds, trees))
    return grown(trees, (0,) * answers, givens)


def grown(trees, sums, givens):
    """Return one tree for all these trees, where the inputs have come with these votes on the way."""
    if len(trees) == 0:
        return (LEAF, sums)
    tree, rest = trees[0], trees[1:]
    if tree[0] == LEAF:
        return grown(rest, added([sums, tree[1]]), givens)
    first, second = parted(tree, givens)
    if len(second) == 0:
        return grown((tree[3],) + rest, sums, first)
    if len(first) == 0:
        return grown((tree[4],) + rest, sums, second)
    return tree[:3] + (grown((tree[3],) + rest, sums, first), grown((tree[4],) + rest, sums, second))
