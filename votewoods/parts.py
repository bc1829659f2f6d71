"""Numbers, kinds and inputs: what a part of the inputs may be."""

from math import gcd

NUMBERS = "0"
MOST_PARTS = 3
MOST_LETTERS = 4
LARGEST_TOP = 1000000000000
LARGEST_BOTTOM = 1000000000000


def is_whole(value):
    """Return whether the value is an integer; booleans are none."""
    return isinstance(value, int) and not isinstance(value, bool)


def is_fraction(value, top, bottom):
    """Return whether the value is a fraction with at most this top and bottom, the top in amount."""
    if not isinstance(value, tuple) or len(value) != 2:
        return False
    if not is_whole(value[0]) or not is_whole(value[1]):
        return False
    if not -top <= value[0] <= top or not 1 <= value[1] <= bottom:
        return False
    return gcd(value[0], value[1]) == 1


def lowest_terms(top, bottom):
    """Return the fraction with this top and this bottom, which is greater than 0."""
    by = gcd(top, bottom)
    return (top // by, bottom // by)


def times(fraction, scale):
    """Return the fraction times the scale, which its bottom divides."""
    return fraction[0] * (scale // fraction[1])


def is_less(fraction, other):
    """Return whether the first fraction is less than the other one."""
    return fraction[0] * other[1] < other[0] * fraction[1]


def is_ascending(text):
    """Return whether the text's letters are sorted and no letter comes twice."""
    return list(text) == sorted(set(text))


def is_kind(value):
    """Return whether the value is a kind of a part."""
    if not isinstance(value, str):
        return False
    if value == NUMBERS:
        return True
    if not 2 <= len(value) <= MOST_LETTERS:
        return False
    return all(["a" <= letter <= "z" for letter in value]) and is_ascending(value)


def is_kinds(value):
    """Return whether the value is a tuple of the kinds of all parts."""
    if not isinstance(value, tuple) or not 1 <= len(value) <= MOST_PARTS:
        return False
    return all([is_kind(kind) for kind in value])


def is_part(value, kinds):
    """Return whether the value is the number of a part."""
    return is_whole(value) and 0 <= value < len(kinds)


def is_marks(value, kind):
    """Return whether the value is a text of some of the kind's letters, ascending."""
    if not isinstance(value, str) or not 1 <= len(value) <= len(kind):
        return False
    return all([letter in kind for letter in value]) and is_ascending(value)


def fits_kind(value, kind):
    """Return whether an input may have the value in a part of this kind."""
    if kind == NUMBERS:
        return is_fraction(value, LARGEST_TOP, LARGEST_BOTTOM)
    return is_marks(value, kind) and len(value) == 1


def is_given(value, kinds):
    """Return whether the value is an input for these kinds."""
    if not isinstance(value, tuple) or len(value) != len(kinds):
        return False
    return all([fits_kind(own, kind) for own, kind in zip(value, kinds)])
