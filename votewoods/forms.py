"""Forms: the votes, and the answers, of a forest for all inputs, and where those of two forests part."""

from votewoods.boxes import asked_axes, ascending_places, sizes_of, told_inputs
from votewoods.forests import check_forest, check_pair
from votewoods.parts import NUMBERS
from votewoods.running import answer_of, votes_of


def votes_form(forest):
    """Return the form of the votes of the forest."""
    check_forest(forest)
    return form_of(forest, votes_of)


def answers_form(forest):
    """Return the form of the answers of the forest."""
    check_forest(forest)
    return form_of(forest, answer_of)


def same_votes(forest, other):
    """Return whether the forests tell the same votes for all inputs."""
    check_pair(forest, other)
    return form_of(forest, votes_of) == form_of(other, votes_of)


def same_answers(forest, other):
    """Return whether the forests tell the same answers for all inputs."""
    check_pair(forest, other)
    return form_of(forest, answer_of) == form_of(other, answer_of)


def parting_votes(forest, other):
    """Return None, or an input for which the forests tell unlike votes."""
    check_pair(forest, other)
    return parting_input(forest, other, votes_of)


def parting_answers(forest, other):
    """Return None, or an input for which the forests tell unlike answers."""
    check_pair(forest, other)
    return parting_input(forest, other, answer_of)


def form_of(forest, tell):
    """Return the form of what the function tells of the forest."""
    axes = needed_axes(forest, tell)
    return (axes, told_entries(forest, axes, tell))


def told_entries(forest, axes, tell):
    """Return what the function tells of the forest for all boxes of the axes."""
    return tuple([tell(forest, given) for given in told_inputs(forest[0], axes)])


def needed_axes(forest, tell):
    """Return the axes of the form of what the function tells of the forest."""
    kinds, _, trees = forest
    # A place at which no test cuts can not be needed, so that these axes have all needed places.
    axes = asked_axes(kinds, trees)
    entries = told_entries(forest, axes, tell)
    sizes = sizes_of(kinds, axes)
    return tuple([
        needed_axis(kind, axes[part], layers_of(entries, sizes, part)) for part, kind in enumerate(kinds)
    ])


def layers_of(entries, sizes, part):
    """Return, for each stretch or class of the part, the entries of all boxes that have it."""
    step = 1
    for size in sizes[part + 1:]:
        step = step * size
    layers = [[] for _ in range(sizes[part])]
    for number, entry in enumerate(entries):
        layers[number // step % sizes[part]].append(entry)
    return [tuple(layer) for layer in layers]


def needed_axis(kind, axis, layers):
    """Return those places at which the layers change, or the classes of letters with equal layers."""
    if kind == NUMBERS:
        return tuple([place for place, low, high in zip(axis, layers, layers[1:]) if low != high])
    classes = {}
    for letter, layer in zip(axis, layers):
        classes[layer] = classes.get(layer, "") + letter
    return tuple(sorted(classes.values()))


def parting_input(forest, other, tell):
    """Return None, or the first told input for which the function tells unlike things of the forests."""
    kinds = forest[0]
    first, second = needed_axes(forest, tell), needed_axes(other, tell)
    axes = tuple([shared_axis(kind, first[part], second[part]) for part, kind in enumerate(kinds)])
    for given in told_inputs(kinds, axes):
        if tell(forest, given) != tell(other, given):
            return given
    return None


def shared_axis(kind, own, others):
    """Return the places of both axes, or each letter as a class of its own."""
    return ascending_places(own + others) if kind == NUMBERS else tuple(kind)
