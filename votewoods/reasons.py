"""The parts that force an answer, and answers that rise as a part grows."""

from votewoods.boxes import rows_of, told_columns
from votewoods.forests import check_forest, check_part
from votewoods.forms import answers_form
from votewoods.parts import NUMBERS
from votewoods.running import answer_of, check_given


def reasons(forest, given):
    """Return the least sets of parts that force the answer of the input."""
    check_forest(forest)
    check_given(forest, given)
    columns = answer_columns(forest)
    found = []
    for parts in sets_of_parts(len(given)):
        if not has_lesser(found, parts) and forces(forest, given, parts, columns):
            found.append(parts)
    return tuple(sorted(found))


def answer_columns(forest):
    """Return, for each part, values of which one stands for each stretch or class of the answers."""
    axes, _ = answers_form(forest)
    return told_columns(forest[0], axes)


def sets_of_parts(many):
    """Return all sets of so many parts, each one behind all lesser ones that it has in it."""
    found = [()]
    for part in range(many):
        found = found + [parts + (part,) for parts in found]
    return found


def has_lesser(found, parts):
    """Return whether one of the found sets is in this one."""
    return any([all([part in parts for part in lesser]) for lesser in found])


def forces(forest, given, parts, columns):
    """Return whether all inputs that have the given values in these parts have the same answer."""
    pairs = list(zip(given, columns))
    fixed = [[own] if part in parts else column for part, (own, column) in enumerate(pairs)]
    return len(set([answer_of(forest, row) for row in rows_of(fixed)])) == 1


def is_rising(forest, part):
    """Return whether the answer never falls as the part alone grows."""
    return broken_rise(forest, part) is None


def broken_rise(forest, part):
    """Return None, or two inputs of which the second one is greater in the part alone, with a lesser answer."""
    check_forest(forest)
    check_part(forest, part)
    columns = answer_columns(forest)
    kind = forest[0][part]
    # A letter may stand between two others that are in one class: here each one is looked at by itself.
    values = columns[part] if kind == NUMBERS else list(kind)
    for row in rows_of(columns[:part] + [values[:1]] + columns[part + 1:]):
        pair = falling_pair(forest, [row[:part] + (value,) + row[part + 1:] for value in values])
        if pair is not None:
            return pair
    return None


def falling_pair(forest, steps):
    """Return None, or two inputs that follow on each other, the second one with a lesser answer."""
    for low, high in zip(steps, steps[1:]):
        if answer_of(forest, high) < answer_of(forest, low):
            return (low, high)
    return None
