"""The nearest input with another answer."""

from votewoods.boxes import rows_of
from votewoods.errors import InvalidFlag
from votewoods.forests import COMMON_BOTTOM, check_forest
from votewoods.forms import answers_form
from votewoods.parts import NUMBERS, lowest_terms, times
from votewoods.running import answer_of, check_given


def nearest(forest, given, free):
    """Return None, or how near inputs with another answer come, and whether one is just so near."""
    check_forest(forest)
    check_given(forest, given)
    if not isinstance(free, bool):
        raise InvalidFlag("free is not a boolean")
    scale = common_scale(forest[0], given)
    rows = other_boxes(forest, given, free, scale)
    if len(rows) == 0:
        return None
    # The farthest part decides for a box, the nearest box for all. Of equal distances, max takes the one
    # that is missed (True is the greater), and min the one that is met.
    distance, missed = min([max(row) for row in rows])
    return (lowest_terms(distance, scale), not missed)


def common_scale(kinds, given):
    """Return a number that the bottoms of all places and of the input's fractions divide."""
    scale = COMMON_BOTTOM
    for kind, own in zip(kinds, given):
        if kind == NUMBERS:
            scale = scale * own[1]
    return scale


def other_boxes(forest, given, free, scale):
    """Return, for each box with another answer that is looked at, the distances of its parts."""
    kinds = forest[0]
    axes, entries = answers_form(forest)
    own_answer = answer_of(forest, given)
    columns = [distances(kind, axis, own, free, scale) for kind, axis, own in zip(kinds, axes, given)]
    return [row for row, entry in zip(rows_of(columns), entries) if entry != own_answer and None not in row]


def distances(kind, axis, own, free, scale):
    """Return, for each stretch or class, the pair of its distance and whether it is missed.

    It is missed if nothing in the stretch has just this distance. None stands for a class that is not looked at.
    """
    if kind != NUMBERS:
        return [(0, False) if free or own in letters else None for letters in axis]
    places = [times(place, scale) for place in axis]
    return [stretch_distance(places, number, times(own, scale)) for number in range(len(places) + 1)]


def stretch_distance(places, number, own):
    """Return the distance of the stretch with this number, and whether it is missed."""
    if number > 0 and own < places[number - 1]:
        return (places[number - 1] - own, False)
    # The place at which a stretch ends is not in it, but fractions as near to it as you like are.
    if number < len(places) and own >= places[number]:
        return (own - places[number], True)
    return (0, False)
