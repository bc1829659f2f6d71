"""Plain counts over all boxes of the places and letters of forests, by other ways than the program's."""

import itertools
from fractions import Fraction

TINY = Fraction(1, 10 ** 40)


def number(fraction):
    return fraction if isinstance(fraction, Fraction) else Fraction(*fraction)


def pair(fraction):
    return (fraction.numerator, fraction.denominator)


def way_to_leaf(tree, given):
    """The way to the leaf to which the input comes, by Python's own fractions."""
    way = ""
    while tree[0] != "leaf":
        own = given[tree[1]]
        first = number(own) < number(tree[2]) if tree[0] == "below" else own in set(tree[2])
        way += "0" if first else "1"
        tree = tree[3 if first else 4]
    return way


def plain_votes(forest, given):
    def follow(tree):
        for sign in way_to_leaf(tree, given):
            tree = tree[3 + int(sign)]
        return tree[1]
    return tuple(map(sum, zip(*map(follow, forest[2]))))


def plain_answer(forest, given):
    sums = plain_votes(forest, given)
    return min(range(len(sums)), key=lambda at: (-sums[at], at))


def all_leaves(tree, way=""):
    """All pairs of a way to a leaf and its votes."""
    if tree[0] == "leaf":
        return [(way, tree[1])]
    return all_leaves(tree[3], way + "0") + all_leaves(tree[4], way + "1")


def all_tests(tree):
    if tree[0] == "leaf":
        return []
    return [tree[:3]] + all_tests(tree[3]) + all_tests(tree[4])


def asked(part, *forests):
    """The places that the forests ask for in a part of numbers, ascending."""
    tests = [test for forest in forests for tree in forest[2] for test in all_tests(tree)]
    return sorted({number(place) for word, at, place in tests if word == "below" and at == part})


def values(kind, places):
    """The told values of the stretches between these places, or the letters."""
    if kind != "0":
        return list(kind)
    return [pair(place) for place in [places[0] - 1] + places] if places else [(0, 1)]


def all_givens(*forests):
    """The told inputs of all boxes of all places and letters that the forests have."""
    kinds = forests[0][0]
    return list(itertools.product(*[values(kind, asked(part, *forests)) for part, kind in enumerate(kinds)]))


def dense_givens(*forests):
    """These inputs, and those between them and beyond them."""
    kinds = forests[0][0]
    columns = []
    for part, kind in enumerate(kinds):
        places = asked(part, *forests)
        between = [(low + high) / 2 for low, high in zip(places, places[1:])]
        beyond = [place + by for place in places[:1] + places[-1:] for by in (-7, 7)]
        # One just below each place, too: a stretch has all of its inputs alike.
        below = [place - Fraction(1, 10 ** 6) for place in places]
        found = sorted(set(places + between + beyond + below)) or [Fraction(0)]
        columns.append(list(map(pair, found)) if kind == "0" else list(kind))
    return list(itertools.product(*columns))


def changed(given, part, value):
    return given[:part] + (value,) + given[part + 1:]


def plain_axes(forest, tell):
    """The axes of the form, as point 2.6 defines them."""
    givens = all_givens(forest)
    axes = []
    for part, kind in enumerate(forest[0]):
        def unlike(one, two):
            return any(tell(forest, changed(given, part, one)) != tell(forest, changed(given, part, two))
                       for given in givens)
        if kind == "0":
            places = asked(part, forest)
            axes.append(tuple(pair(place) for place in places if unlike(pair(place), pair(place - TINY))))
        else:
            classes = {"".join(other for other in kind if not unlike(letter, other)) for letter in kind}
            axes.append(tuple(sorted(classes)))
    return tuple(axes)


def told(kinds, axes):
    """The told inputs of the boxes of the axes, in their sequence."""
    columns = []
    for kind, axis in zip(kinds, axes):
        columns.append(values(kind, [number(place) for place in axis]) if kind == "0" else [x[0] for x in axis])
    return list(itertools.product(*columns))


def plain_form(forest, tell):
    axes = plain_axes(forest, tell)
    return (axes, tuple(tell(forest, given) for given in told(forest[0], axes)))


def plain_parting(forest, other, tell):
    """The first told input at which the forests part, as point 6 says."""
    pairs = zip(forest[0], plain_axes(forest, tell), plain_axes(other, tell))
    axes = [sorted(set(one + two), key=number) if kind == "0" else tuple(kind) for kind, one, two in pairs]
    unlike = [given for given in told(forest[0], axes) if tell(forest, given) != tell(other, given)]
    return unlike[0] if unlike else None


def plain_least(forest, of_leaf, of_test):
    """The least cost of a tree with the forest's answers, counted over sets of inputs instead of boxes."""
    kinds = forest[0]
    answers = {given: plain_answer(forest, given) for given in all_givens(forest)}
    goes = []
    for part, kind in enumerate(kinds):
        if kind == "0":
            goes += [frozenset(given for given in answers if number(given[part]) < place)
                     for place in asked(part, forest)]
        else:
            subsets = [set(marks) for many in range(1, len(kind)) for marks in itertools.combinations(kind, many)]
            goes += [frozenset(given for given in answers if given[part] in marks) for marks in subsets]
    kept = {}

    def least(givens):
        if givens not in kept:
            if len({answers[given] for given in givens}) == 1:
                kept[givens] = of_leaf
            else:
                halves = [(givens & first, givens - first) for first in goes]
                kept[givens] = min(of_test(least(one), least(two)) for one, two in halves if one and two)
        return kept[givens]
    return least(frozenset(answers))


def another_within(forest, given, free, distance):
    """Whether an input that is no farther has another answer, and, if it must, the same marks.

    Of each stretch that comes so near, the first fraction that is no farther stands for the others.
    """
    columns = []
    for part, (kind, own) in enumerate(zip(forest[0], given)):
        if kind == "0":
            low, high = number(own) - distance, number(own) + distance
            columns.append([low] + [place for place in asked(part, forest) if low <= place <= high])
        else:
            columns.append(kind if free else own)
    own_answer = plain_answer(forest, given)
    return any(plain_answer(forest, other) != own_answer for other in itertools.product(*columns))
