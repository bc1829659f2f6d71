"""Running a forest on an input."""

from votewoods.errors import InvalidInput
from votewoods.forests import BELOW, LEAF, check_forest
from votewoods.parts import is_given, is_less


def votes(forest, given):
    """Return the votes of the forest for the input."""
    check_forest(forest)
    check_given(forest, given)
    return votes_of(forest, given)


def answer(forest, given):
    """Return the answer of the forest for the input."""
    check_forest(forest)
    check_given(forest, given)
    return answer_of(forest, given)


def gap(forest, given):
    """Return by how much the greatest sum is greater than the next one."""
    return gap_of(votes(forest, given))


def check_given(forest, given):
    """Raise InvalidInput if the value is not an input for the forest's kinds."""
    if not is_given(given, forest[0]):
        raise InvalidInput("this is not an input for the forest's kinds")


def votes_of(forest, given):
    """Return the votes, where the forest and the input have been checked."""
    return added([leaf_votes(tree, given) for tree in forest[2]])


def added(rows):
    """Return the sums of these votes."""
    return tuple([sum(column) for column in zip(*rows)])


def gap_of(sums):
    """Return by how much the greatest sum is greater than the next one."""
    ordered = sorted(sums, reverse=True)
    return ordered[0] - ordered[1]


def answer_of(forest, given):
    """Return the answer, where the forest and the input have been checked."""
    sums = votes_of(forest, given)
    # The index is that of the first one of several greatest sums.
    return sums.index(max(sums))


def leaf_votes(tree, given):
    """Return the votes of the leaf to which the input comes."""
    while tree[0] != LEAF:
        tree = tree[3] if goes_first(tree, given) else tree[4]
    return tree[1]


def parted(test, givens):
    """Return those inputs that go to the first tree of the test, and those that go to the second one."""
    first = [given for given in givens if goes_first(test, given)]
    second = [given for given in givens if not goes_first(test, given)]
    return (first, second)


def goes_first(tree, given):
    """Return whether the input goes to the first tree of a test."""
    word, part, bound = tree[:3]
    if word == BELOW:
        return is_less(given[part], bound)
    return given[part] in bound
