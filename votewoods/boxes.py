"""Boxes: the axes that cut all inputs into boxes, and the told inputs of the boxes."""

from votewoods.forests import COMMON_BOTTOM, LEAF
from votewoods.parts import NUMBERS, times


def asked_axes(kinds, trees):
    """Return, for each part, the places that the trees ask for, or each letter as a class of its own."""
    return tuple([asked_axis(kind, part, trees) for part, kind in enumerate(kinds)])


def asked_axis(kind, part, trees):
    """Return the places that the trees ask for in the part, or each letter as a class of its own."""
    if kind != NUMBERS:
        return tuple(kind)
    return ascending_places([place for tree in trees for place in asked_places(tree, part)])


def asked_places(tree, part):
    """Return the places that the tests of a part of numbers have in the tree, perhaps some of them twice."""
    if tree[0] == LEAF:
        return []
    places = asked_places(tree[3], part) + asked_places(tree[4], part)
    return [tree[2]] + places if tree[1] == part else places


def ascending_places(places):
    """Return the places sorted as numbers, without duplicates."""
    by_size = {times(place, COMMON_BOTTOM): place for place in places}
    return tuple([by_size[size] for size in sorted(by_size)])


def sizes_of(kinds, axes):
    """Return, for each part, how many stretches or classes it has."""
    return [len(axis) + 1 if kind == NUMBERS else len(axis) for kind, axis in zip(kinds, axes)]


def told_inputs(kinds, axes):
    """Return the told inputs of all boxes of the axes, in the boxes' sequence."""
    return rows_of(told_columns(kinds, axes))


def told_columns(kinds, axes):
    """Return, for each part, the values that the told inputs have in it."""
    return [told_values(kind, axis) for kind, axis in zip(kinds, axes)]


def told_values(kind, axis):
    """Return the values that the told inputs have in a part, one for each stretch or class."""
    if kind != NUMBERS:
        return [letters[0] for letters in axis]
    if len(axis) == 0:
        return [(0, 1)]
    top, bottom = axis[0]
    return [(top - bottom, bottom)] + list(axis)


def rows_of(columns):
    """Return all rows of one value of each column, those with earlier values first, column by column."""
    rows = [()]
    for column in columns:
        rows = [row + (value,) for row in rows for value in column]
    return rows
