"""Forests: what is one, and how many leaves it has."""

from votewoods.errors import InvalidForest, InvalidPart, NoFit
from votewoods.parts import NUMBERS, is_fraction, is_kinds, is_marks, is_part, is_whole

LEAF = "leaf"
BELOW = "below"
AMONG = "among"
LARGEST_VOTE = 9
LARGEST_PLACE_TOP = 99
LARGEST_PLACE_BOTTOM = 4
# The bottoms of all places, 1 to 4, divide this number.
COMMON_BOTTOM = 12
FEWEST_ANSWERS = 2
MOST_ANSWERS = 3
MOST_TREES = 4
MOST_LEAVES = 8
MOST_TESTS = 7


def is_forest(value):
    """Return whether the value is a forest."""
    if not isinstance(value, tuple) or len(value) != 3:
        return False
    kinds, answers, trees = value
    if not is_kinds(kinds) or not is_whole(answers):
        return False
    if not FEWEST_ANSWERS <= answers <= MOST_ANSWERS:
        return False
    if not isinstance(trees, tuple) or not 1 <= len(trees) <= MOST_TREES:
        return False
    return all([is_tree(tree, kinds, answers) for tree in trees])


def count_leaves(forest):
    """Return how many leaves all trees of the forest have."""
    check_forest(forest)
    return sum([leaves_of(tree) for tree in forest[2]])


def check_forest(forest):
    """Raise InvalidForest if the value is not a forest."""
    if not is_forest(forest):
        raise InvalidForest("this is not a forest")


def check_pair(forest, other):
    """Raise InvalidForest or NoFit if these are not two forests with like kinds and answers."""
    check_forest(forest)
    check_forest(other)
    if forest[:2] != other[:2]:
        raise NoFit("the forests have unlike kinds or unlike numbers of answers")


def check_part(forest, part):
    """Raise InvalidPart if the value is not the number of a part of the forest's inputs."""
    if not is_part(part, forest[0]):
        raise InvalidPart("this is not the number of a part")


def is_tree(value, kinds, answers):
    """Return whether the value is a tree for these kinds and this number of answers."""
    return is_branch(value, kinds, answers, MOST_TESTS) and leaves_of(value) <= MOST_LEAVES


def is_branch(value, kinds, answers, tests_left):
    """Return whether the value is a leaf, or a test of trees with so many tests on each way."""
    if not isinstance(value, tuple) or len(value) == 0:
        return False
    if value[0] == LEAF:
        return len(value) == 2 and is_votes(value[1], answers)
    # No way goes on without end: a value nested too deep is refused before it is looked through.
    if tests_left == 0 or len(value) != 5:
        return False
    word, part, bound, first, second = value
    if not is_test(word, part, bound, kinds):
        return False
    return is_branch(first, kinds, answers, tests_left - 1) and is_branch(second, kinds, answers, tests_left - 1)


def is_test(word, part, bound, kinds):
    """Return whether these are the word, the part, and the place or the marks, of a test."""
    if not is_part(part, kinds):
        return False
    if kinds[part] == NUMBERS:
        return word == BELOW and is_fraction(bound, LARGEST_PLACE_TOP, LARGEST_PLACE_BOTTOM)
    return word == AMONG and is_marks(bound, kinds[part])


def is_votes(value, answers):
    """Return whether the value is the votes of a leaf for this number of answers."""
    if not isinstance(value, tuple) or len(value) != answers:
        return False
    return all([is_whole(vote) and -LARGEST_VOTE <= vote <= LARGEST_VOTE for vote in value])


def leaves_of(tree):
    """Return how many leaves the tree has."""
    if tree[0] == LEAF:
        return 1
    return leaves_of(tree[3]) + leaves_of(tree[4])
