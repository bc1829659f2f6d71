"""Forests and other values that several tests use."""

import random

F = (
    ("0", "ab"),
    2,
    (
        ("below", 0, (1, 1), ("leaf", (1, 0)), ("leaf", (0, 1))),
        ("among", 1, "a", ("leaf", (0, 2)), ("leaf", (0, 0))),
    ),
)
F_TEXT = "0,ab 2 (0<1 [1 0] [0 1]) (1=a [0 2] [0 0])"

# The longest text that a forest can have.
LONG_TREE_TEXT = "(0<-99/4 " * 7 + "[-9 -9 -9]" + " [-9 -9 -9])" * 7
LONGEST_TEXT = "0,abcd,abcd 3" + (" " + LONG_TREE_TEXT) * 4

ZERO = ("leaf", (0, 0))


def below(part=0, place=(0, 1), first=ZERO, second=ZERO):
    return ("below", part, place, first, second)


def among(part=0, marks="a", first=ZERO, second=ZERO):
    return ("among", part, marks, first, second)


def one_tree(tree, kinds=("0", "ab"), answers=2):
    return (kinds, answers, (tree,))


def chain(tests, second_way=False):
    """A tree with so many tests, all on one way, and one leaf more."""
    tree = ZERO
    for number in range(tests):
        place = (min(number, 99), 1)
        tree = below(0, place, ZERO, tree) if second_way else below(0, place, tree, ZERO)
    return tree


def full(depth):
    """A tree with so many tests on each way."""
    return ZERO if depth == 0 else below(0, (depth, 1), full(depth - 1), full(depth - 1))


def nested(value, deep, around):
    for _ in range(deep):
        value = around(value)
    return value


def wrong_values():
    """Values that are neither forests, inputs, trees nor texts of forests."""
    plain = [True, False, None, 0.5, float("nan"), float("inf"), "", "0", "abc", (), [], {}, 0, 1, -7]
    wraps = [lambda x: (x,), lambda x: [x], lambda x: {"a": x}, lambda x: (x, x, x), lambda x: {1: [(x,)]}]
    values = plain + [wrap(value) for wrap in wraps for value in plain]
    for wrap in wraps[:3]:
        values += [nested(value, 30, wrap) for value in plain]
    values += [nested(0, 30, lambda x: ("below", 0, (0, 1), x, ZERO)), ("leaf", (0, 0)), list(F), (F,), {F: F}]
    return values


def random_votes(rng, answers, largest=9):
    return tuple(rng.randint(-largest, largest) for _ in range(answers))


def random_tree(rng, kinds, answers, leaves, places=None, largest=9):
    if leaves == 1:
        return ("leaf", random_votes(rng, answers, largest))
    on_first = rng.randint(1, leaves - 1)
    first = random_tree(rng, kinds, answers, on_first, places, largest)
    second = random_tree(rng, kinds, answers, leaves - on_first, places, largest)
    part = rng.randrange(len(kinds))
    if kinds[part] == "0":
        return ("below", part, rng.choice(places or PLACES), first, second)
    marks = rng.sample(kinds[part], rng.randint(1, len(kinds[part])))
    return ("among", part, "".join(sorted(marks)), first, second)


def random_kind(rng):
    if rng.random() < 0.5:
        return "0"
    return "".join(sorted(rng.sample("abcdefghijklmnopqrstuvwxyz", rng.randint(2, 4))))


def random_forests(many):
    """Forests of all sizes, the same ones each time."""
    rng = random.Random(20)
    forests = []
    for _ in range(many):
        kinds = tuple(random_kind(rng) for _ in range(rng.randint(1, 3)))
        answers = rng.randint(2, 3)
        trees = [random_tree(rng, kinds, answers, rng.randint(1, 8)) for _ in range(rng.randint(1, 4))]
        forests.append((kinds, answers, tuple(trees)))
    return forests


def small_forests(many):
    """Forests with few places and small votes, so that they often tell the same, the same ones each time."""
    rng = random.Random(7)
    forests = []
    for _ in range(many):
        kinds = tuple(rng.choice(["0", "0", "ab", "bdf", "wxyz"]) for _ in range(rng.randint(1, 3)))
        answers = rng.randint(2, 3)
        trees = [random_tree(rng, kinds, answers, rng.randint(1, 4), FEW_PLACES, 2) for _ in range(rng.randint(1, 3))]
        forests.append((kinds, answers, tuple(trees)))
    return forests


def greatest_forest(bottom):
    """A forest of three parts of numbers with 28 places, each of them needed for the votes."""
    rng = random.Random(bottom)
    trees = []
    for at in range(4):
        tree = ("leaf", random_votes(rng, 3))
        for number in range(7 * at + 6, 7 * at - 1, -1):
            top = (number // 3 * 2 - 9) * bottom + bottom - 1
            tree = below(number % 3, (top, bottom), ("leaf", random_votes(rng, 3)), tree)
        trees.append(tree)
    return (("0", "0", "0"), 3, tuple(trees))


def lowest_terms(top, bottom):
    return all(top % by or bottom % by for by in range(2, bottom + 1))


PLACES = [(top, bottom) for bottom in range(1, 5) for top in range(-99, 100) if lowest_terms(top, bottom)]
FEW_PLACES = [(-1, 1), (0, 1), (1, 3), (1, 2), (5, 4), (2, 1)]
