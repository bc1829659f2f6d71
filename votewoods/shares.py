"""Shares of the answers in a box, the least gap, and the answers that are told."""

from votewoods.boxes import rows_of
from votewoods.errors import InvalidBox
from votewoods.forests import COMMON_BOTTOM, check_forest
from votewoods.forms import answers_form, votes_form
from votewoods.parts import NUMBERS, is_fraction, is_less, lowest_terms, times
from votewoods.running import gap_of

LARGEST_END_TOP = 999
LARGEST_END_BOTTOM = 99


def shares(forest, box):
    """Return, for each answer, the share of the inputs of the box that have it."""
    check_forest(forest)
    check_box(forest, box)
    kinds, answers, _ = forest
    axes, entries = answers_form(forest)
    columns = [weights(kind, axis, ends) for kind, axis, ends in zip(kinds, axes, box)]
    amounts = [0] * answers
    for row, entry in zip(rows_of(columns), entries):
        amounts[entry] = amounts[entry] + product_of(row)
    whole = sum(amounts)
    return tuple([lowest_terms(amount, whole) for amount in amounts])


def least_gap(forest):
    """Return the least gap of all inputs."""
    _, entries = votes_form(forest)
    return min([gap_of(sums) for sums in entries])


def answers_told(forest):
    """Return the answers that some input has."""
    _, entries = answers_form(forest)
    return tuple(sorted(set(entries)))


def check_box(forest, box):
    """Raise InvalidBox if the value is not a box for the forest's kinds."""
    if not is_box(box, forest[0]):
        raise InvalidBox("this is not a box for the forest's kinds")


def is_box(value, kinds):
    """Return whether the value is a box for these kinds."""
    if not isinstance(value, tuple) or len(value) != len(kinds):
        return False
    return all([is_side(own, kind) for own, kind in zip(value, kinds)])


def is_side(value, kind):
    """Return whether a box may have the value in a part of this kind."""
    if kind != NUMBERS:
        return value is None
    if not isinstance(value, tuple) or len(value) != 2:
        return False
    if not all([is_fraction(end, LARGEST_END_TOP, LARGEST_END_BOTTOM) for end in value]):
        return False
    return is_less(value[0], value[1])


def weights(kind, axis, ends):
    """Return how much of the box each stretch or class of the part has, in one unit for the whole part."""
    if kind != NUMBERS:
        return [len(letters) for letters in axis]
    scale = COMMON_BOTTOM * ends[0][1] * ends[1][1]
    low, high = times(ends[0], scale), times(ends[1], scale)
    # Places beyond an end are moved to it, so that nothing is left of the stretches behind them.
    inner = [min(max(times(place, scale), low), high) for place in axis]
    return [end - begin for begin, end in zip([low] + inner, inner + [high])]


def product_of(numbers):
    """Return the product of the numbers."""
    result = 1
    for number in numbers:
        result = result * number
    return result
