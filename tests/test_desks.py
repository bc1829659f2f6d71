"""Sections 3 and 13: desks."""

import itertools
import random
import time
import unittest

from plain import all_givens, all_leaves, plain_answer
from samples import (
    F, ZERO, among, below, chain, greatest_forest, one_tree, random_tree, random_votes, small_forests, wrong_values,
)
from votewoods.desks import Desk
from votewoods.errors import InvalidForest, InvalidIndex, InvalidTree, NothingToUndo, TooMany
from votewoods.forests import is_forest
from votewoods.texts import parse_forest

LEAF = ("leaf", (1, 2))
WRONG_NUMBERS = [value for value in wrong_values() if type(value) is not int]
WRONG_NUMBERS += [-1, -2, -3, 2, 3, 4, 10 ** 30, -10 ** 30, 0.0, 1.0, "0", "1", b"0", (0,), F, 1.5]
WRONG_WAYS = [value for value in wrong_values() if value not in ("0", "1")]
WRONG_WAYS += ["2", "00", "01", "10", "11", "0 ", " 0", "a", "-0", 0, 1, b"0", ("0",), ["0"], "0" * 10 ** 5, "\u0661"]
WRONG_VOTES = wrong_values() + [(0,), (0, 0, 0), [0, 0], (0, 10), (-10, 0), (True, 0), (0, False), (0.0, 0), ("0", 0)]
WRONG_VOTES += [(None, 0), ((0,), 0), (10 ** 400, 0), LEAF, ZERO]
WRONG_TREES = [value for value in wrong_values() if value != ZERO]
WRONG_TREES += [chain(8), ("leaf", (0, 10)), ("leaf", (0, 0, 0)), ("leaf", [0, 0]), list(ZERO), F]
WRONG_TREES += [(ZERO,), below(1), among(0), below(2), among(1, "c"), below(0, (2, 2)), below(0, (1, 5)), (0, 0)]
WRONG_TREES += [below(first=("leaf", (0, True))), below(second=list(ZERO)), among(True), below(-1), F[2]]


def with_votes(tree, way, votes):
    """The tree with other votes at the end of the way, found from the leaf up."""
    found = ("leaf", votes)
    for at in range(len(way) - 1, -1, -1):
        above = tree
        for sign in way[:at]:
            above = above[3 + int(sign)]
        found = above[:3] + ((found, above[4]) if way[at] == "0" else (above[3], found))
    return found


def answers_change(forest, other):
    return any(plain_answer(forest, given) != plain_answer(other, given) for given in all_givens(forest, other))


class PlainDesk:
    """All forests that there have been, and at which of them the desk is."""

    def __init__(self, forest):
        self.rows = [forest]
        self.at = 0

    def told(self):
        return self.rows[:self.at + 1]

    def go(self, by):
        before = self.rows[self.at]
        self.at += by
        return answers_change(before, self.rows[self.at])

    def change(self, trees):
        self.rows = self.told() + [self.rows[0][:2] + (tuple(trees),)]
        return self.go(1)


class Case(unittest.TestCase):
    def refused(self, error, function, *values):
        with self.subTest(function=function.__name__, values=values):
            with self.assertRaises(error) as caught:
                function(*values)
            self.assertIs(type(caught.exception), error)


class Changes(Case):
    def test_a_new_desk(self):
        desk = Desk(F)
        self.assertEqual(desk.forest(), F)
        self.assertEqual(len(desk), 0)
        self.assertEqual([type(desk.forest()), type(len(desk))], [tuple, int])

    def test_set_leaf(self):
        desk = Desk(F)
        self.assertIs(desk.set_leaf(0, "0", (0, 5)), True)
        self.assertEqual(desk.forest(), parse_forest("0,ab 2 (0<1 [0 5] [0 1]) (1=a [0 2] [0 0])"))
        self.assertIs(desk.set_leaf(1, "0", (0, 9)), False)
        self.assertEqual(desk.forest(), parse_forest("0,ab 2 (0<1 [0 5] [0 1]) (1=a [0 9] [0 0])"))
        self.assertIs(desk.set_leaf(0, "1", (9, -9)), True)
        self.assertEqual(desk.forest(), parse_forest("0,ab 2 (0<1 [0 5] [9 -9]) (1=a [0 9] [0 0])"))
        self.assertEqual(len(desk), 3)

    def test_set_leaf_of_a_tree_that_is_a_leaf(self):
        desk = Desk(parse_forest("abc 3 [1 0 0]"))
        self.assertIs(desk.set_leaf(0, "", (0, 1, 0)), True)
        self.assertEqual(desk.forest(), parse_forest("abc 3 [0 1 0]"))
        self.assertIs(desk.set_leaf(0, "", (-9, 9, 8)), False)
        self.assertEqual(desk.forest(), parse_forest("abc 3 [-9 9 8]"))

    def test_set_leaf_deep_in_a_tree(self):
        for forest in (one_tree(chain(7)), one_tree(chain(7, True)), F[:2] + ((chain(3), chain(5, True)),)):
            for number, tree in enumerate(forest[2]):
                for way, _ in all_leaves(tree):
                    desk = Desk(forest)
                    desk.set_leaf(number, way, (7, -3))
                    changed = with_votes(tree, way, (7, -3))
                    trees = forest[2][:number] + (changed,) + forest[2][number + 1:]
                    self.assertEqual(desk.forest(), forest[:2] + (trees,))
                    self.assertEqual(dict(all_leaves(changed)), {**dict(all_leaves(tree)), way: (7, -3)})

    def test_set_leaf_without_inputs(self):
        desk = Desk(parse_forest("0 2 (0<1 (0<1 [1 0] [0 0]) [0 1])"))
        self.assertIs(desk.set_leaf(0, "01", (0, 9)), False)
        self.assertEqual(desk.forest(), parse_forest("0 2 (0<1 (0<1 [1 0] [0 9]) [0 1])"))
        self.assertEqual(len(desk), 1)

    def test_put(self):
        desk = Desk(F)
        self.assertIs(desk.put(ZERO), False)
        self.assertEqual(desk.forest(), F[:2] + (F[2] + (ZERO,),))
        self.assertIs(desk.put(("leaf", (9, 0))), True)
        self.assertEqual(desk.forest(), F[:2] + (F[2] + (ZERO, ("leaf", (9, 0))),))
        self.assertEqual(len(desk), 2)

    def test_take(self):
        forest = parse_forest("0 2 (0<1 [9 0] [0 9]) [1 2] (0<2 [1 0] [0 1])")
        for number, told in enumerate([True, False, False]):
            desk = Desk(forest)
            self.assertIs(desk.take(number), told)
            self.assertEqual(desk.forest(), forest[:2] + (forest[2][:number] + forest[2][number + 1:],))
            self.assertEqual(len(desk), 1)

    def test_take_all_but_one(self):
        desk = Desk(parse_forest("0 2 [1 0] [2 0] [3 0] [0 9]"))
        self.assertEqual([desk.take(0), desk.take(1), desk.take(0)], [False, False, False])
        self.assertEqual(desk.forest(), parse_forest("0 2 [0 9]"))
        self.refused(InvalidIndex, desk.take, 0)

    def test_whether_the_answers_change(self):
        desk = Desk(parse_forest("0 2 (0<1 [1 0] [0 1])"))
        self.assertIs(desk.put(("leaf", (1, 1))), False)
        self.assertIs(desk.put(("leaf", (1, 0))), True)
        self.assertIs(desk.take(0), False)
        self.assertIs(desk.undo(), False)
        self.assertIs(desk.undo(), True)
        self.assertIs(desk.undo(), False)
        self.assertIs(desk.redo(), False)
        self.assertIs(desk.redo(), True)
        self.assertIs(desk.redo(), False)

    def test_the_forest_told_is_not_changed(self):
        desk = Desk(F)
        before = desk.forest()
        desk.set_leaf(0, "0", (5, 5))
        self.assertEqual(before, F)
        self.assertNotEqual(desk.forest(), F)


class Undo(Case):
    def test_undo_and_redo(self):
        desk = Desk(F)
        desk.put(LEAF)
        desk.set_leaf(0, "1", (3, 0))
        desk.take(1)
        rows = [F, F[:2] + (F[2] + (LEAF,),)]
        rows.append(parse_forest("0,ab 2 (0<1 [1 0] [3 0]) (1=a [0 2] [0 0]) [1 2]"))
        rows.append(parse_forest("0,ab 2 (0<1 [1 0] [3 0]) [1 2]"))
        self.assertEqual((desk.forest(), len(desk)), (rows[3], 3))
        for at in (2, 1, 0):
            self.assertIs(desk.undo(), answers_change(rows[at], rows[at + 1]))
            self.assertEqual((desk.forest(), len(desk)), (rows[at], at))
        self.refused(NothingToUndo, desk.undo)
        for at in (1, 2, 3):
            self.assertIs(desk.redo(), answers_change(rows[at], rows[at - 1]))
            self.assertEqual((desk.forest(), len(desk)), (rows[at], at))
        self.refused(NothingToUndo, desk.redo)
        self.assertEqual((desk.forest(), len(desk)), (rows[3], 3))

    def test_nothing_on_a_new_desk(self):
        desk = Desk(F)
        self.refused(NothingToUndo, desk.undo)
        self.refused(NothingToUndo, desk.redo)
        self.assertEqual((desk.forest(), len(desk)), (F, 0))
        desk.put(ZERO)
        self.refused(NothingToUndo, desk.redo)
        desk.undo()
        self.refused(NothingToUndo, desk.undo)

    def test_a_change_behind_an_undo(self):
        for word, values in (("put", (ZERO,)), ("take", (1,)), ("set_leaf", (0, "0", (0, 0)))):
            desk = Desk(F)
            desk.put(LEAF)
            desk.set_leaf(1, "1", (4, 4))
            desk.undo()
            getattr(desk, word)(*values)
            found = desk.forest()
            self.refused(NothingToUndo, desk.redo)
            self.assertEqual((desk.forest(), len(desk)), (found, 2))
            desk.undo()
            self.assertEqual((desk.forest(), len(desk)), (F[:2] + (F[2] + (LEAF,),), 1))
            desk.redo()
            self.assertEqual((desk.forest(), len(desk)), (found, 2))
            self.refused(NothingToUndo, desk.redo)

    def test_a_change_behind_several_undos(self):
        desk = Desk(F)
        for number in range(3):
            desk.set_leaf(0, "0", (number, number))
        desk.undo()
        desk.undo()
        desk.redo()
        desk.set_leaf(0, "1", (9, 9))
        self.refused(NothingToUndo, desk.redo)
        self.assertEqual(len(desk), 3)
        self.assertEqual(desk.forest(), parse_forest("0,ab 2 (0<1 [1 1] [9 9]) (1=a [0 2] [0 0])"))

    def test_a_change_that_changes_nothing_is_one(self):
        desk = Desk(F)
        desk.put(ZERO)
        desk.undo()
        self.assertIs(desk.set_leaf(0, "0", (1, 0)), False)
        self.assertEqual((desk.forest(), len(desk)), (F, 1))
        self.refused(NothingToUndo, desk.redo)
        self.assertIs(desk.undo(), False)
        self.assertEqual((desk.forest(), len(desk)), (F, 0))

    def test_many_undos(self):
        desk = Desk(one_tree(ZERO))
        for number in range(50):
            desk.set_leaf(0, "", (number % 10, 5))
        self.assertEqual(len(desk), 50)
        self.assertEqual([desk.undo() for _ in range(50)].count(True), 10)
        self.assertEqual((desk.forest(), len(desk)), (one_tree(ZERO), 0))
        self.assertEqual([desk.redo() for _ in range(50)].count(True), 10)
        self.assertEqual((desk.forest(), len(desk)), (one_tree(("leaf", (9, 5))), 50))


class Counted(Case):
    """Rows of calls by chance against a plain desk."""

    def step(self, rng, desk, plain):
        """Call one method on both, and return what it returned, or the name of the error."""
        kinds, answers, trees = plain.rows[plain.at]
        word = rng.choice(["set", "set", "put", "take", "undo", "undo", "redo", "redo"])
        number = rng.randrange(len(trees)) if rng.random() < 0.9 else rng.choice([-1, len(trees), True, None])
        if word in ("undo", "redo"):
            by = -1 if word == "undo" else 1
            if not 0 <= plain.at + by < len(plain.rows):
                self.refused(NothingToUndo, getattr(desk, word))
                return "NothingToUndo"
            self.assertIs(getattr(desk, word)(), plain.go(by))
            return word
        if word == "put":
            tree = random_tree(rng, kinds, answers, rng.randint(1, 3), [(0, 1), (1, 2), (2, 1)], 2)
            if rng.random() < 0.1:
                self.refused(InvalidTree, desk.put, ("leaf", (0,) * (answers + 1)))
            elif len(trees) == 4:
                self.refused(TooMany, desk.put, tree)
                return "TooMany"
            else:
                self.assertIs(desk.put(tree), plain.change(trees + (tree,)))
            return word
        if type(number) is not int or not 0 <= number < len(trees) or word == "take" and len(trees) == 1:
            self.refused(InvalidIndex, *((desk.take, number) if word == "take" else (desk.set_leaf, number, "", ())))
            return "InvalidIndex"
        if word == "take":
            self.assertIs(desk.take(number), plain.change(trees[:number] + trees[number + 1:]))
            return word
        way, own = rng.choice(all_leaves(trees[number]))
        votes = rng.choice([own, random_votes(rng, answers, 2), random_votes(rng, answers)])
        if rng.random() < 0.1:
            self.refused(InvalidIndex, desk.set_leaf, number, way + "0", votes)
            self.refused(InvalidTree, desk.set_leaf, number, way, votes + (0,))
            return "set and refused"
        changed = with_votes(trees[number], way, votes)
        told = plain.change(trees[:number] + (changed,) + trees[number + 1:])
        self.assertIs(desk.set_leaf(number, way, votes), told)
        return word

    def test_rows_of_calls(self):
        rng, met = random.Random(8), set()
        for forest in small_forests(60):
            desk, plain = Desk(forest), PlainDesk(forest)
            for _ in range(25):
                met.add(self.step(rng, desk, plain))
                self.assertEqual(desk.forest(), plain.rows[plain.at])
                self.assertEqual(len(desk), plain.at)
                self.assertIs(is_forest(desk.forest()), True)
        self.assertEqual(len(met), 9)

    def test_equality_of_two_desks(self):
        rng, met = random.Random(9), set()
        for forest in small_forests(40):
            desks, plains = [Desk(forest), Desk(forest)], [PlainDesk(forest), PlainDesk(forest)]
            for _ in range(12):
                seed = rng.random()
                for desk, plain in zip(desks, plains):
                    # Often both go the same way, sometimes one alone.
                    self.step(random.Random(seed if rng.random() < 0.9 else rng.random()), desk, plain)
                alike = plains[0].told() == plains[1].told()
                self.assertIs(desks[0] == desks[1], alike)
                self.assertIs(desks[1] != desks[0], not alike)
                met.add((alike, plains[0].rows == plains[1].rows, desks[0].forest() == desks[1].forest()))
        self.assertTrue({(True, False, True), (True, True, True), (False, False, True), (False, False, False)} <= met)

    def test_what_is_done_on_one_desk_is_not_done_on_another_one(self):
        rng = random.Random(10)
        for forest in small_forests(30):
            desks = [Desk(forest) for _ in range(3)]
            plains = [PlainDesk(forest) for _ in range(3)]
            for _ in range(30):
                at = rng.randrange(3)
                self.step(rng, desks[at], plains[at])
                for desk, plain in zip(desks, plains):
                    self.assertEqual((desk.forest(), len(desk)), (plain.rows[plain.at], plain.at))
            for desk, plain in zip(desks, plains):
                while plain.at:
                    self.assertIs(desk.undo(), plain.go(-1))
                self.assertEqual((desk.forest(), len(desk)), (forest, 0))
                while plain.at < len(plain.rows) - 1:
                    self.assertIs(desk.redo(), plain.go(1))
                self.refused(NothingToUndo, desk.redo)

    def test_greatest_forest(self):
        forest = greatest_forest(2)
        started = time.process_time()
        desk = Desk(forest)
        told = [desk.set_leaf(3, "1111111", (9, 9, 9)), desk.take(0), desk.put(forest[2][0]), desk.undo(), desk.redo()]
        self.assertLess(time.process_time() - started, 5)
        trees = forest[2][1:3] + (with_votes(forest[2][3], "1111111", (9, 9, 9)),)
        self.assertEqual(desk.forest(), forest[:2] + (trees + forest[2][:1],))
        self.assertEqual(told[1:4], [True, True, True])


class Equality(Case):
    def alike(self, one, two):
        self.assertIs(one == two, True)
        self.assertIs(two == one, True)
        self.assertIs(one != two, False)

    def unlike(self, one, two):
        self.assertIs(one == two, False)
        self.assertIs(two == one, False)
        self.assertIs(one != two, True)

    def test_new_desks(self):
        self.alike(Desk(F), Desk(F))
        desk = Desk(F)
        self.alike(desk, desk)
        self.alike(Desk(F), Desk(parse_forest("0,ab 2 (0<1 [1 0] [0 1]) (1=a [0 2] [0 0])")))
        self.unlike(Desk(F), Desk(one_tree(ZERO)))

    def test_forests_that_tell_the_same_are_not_the_same(self):
        self.unlike(Desk(parse_forest("0 2 (0<1 [1 0] [1 0])")), Desk(parse_forest("0 2 [1 0]")))
        self.unlike(Desk(F), Desk(F[:2] + (F[2][::-1],)))

    def test_the_same_changes(self):
        one, two = Desk(F), Desk(F)
        one.put(ZERO)
        self.unlike(one, two)
        two.put(ZERO)
        self.alike(one, two)
        one.set_leaf(0, "0", (3, 3))
        two.set_leaf(0, "0", (3, 4))
        self.unlike(one, two)

    def test_undone_changes_are_left_aside(self):
        one, two = Desk(F), Desk(F)
        one.put(ZERO)
        one.undo()
        self.alike(one, two)
        two.take(0)
        two.undo()
        self.alike(one, two)
        one.redo()
        self.unlike(one, two)
        two.put(ZERO)
        self.alike(one, two)

    def test_the_same_forests_on_unlike_ways(self):
        twins = F[:2] + ((ZERO, ZERO, LEAF),)
        one, two = Desk(twins), Desk(twins)
        one.take(0)
        two.take(1)
        self.alike(one, two)
        one.set_leaf(0, "", (1, 2))
        two.set_leaf(0, "", (5, 5))
        two.undo()
        two.set_leaf(0, "", (1, 2))
        self.alike(one, two)

    def test_the_same_forest_in_the_end_alone(self):
        one, two, three = Desk(F), Desk(F), Desk(F)
        one.put(ZERO)
        one.put(LEAF)
        two.put(ZERO)
        two.set_leaf(2, "", (1, 2))
        two.put(LEAF)
        two.set_leaf(2, "", (0, 0))
        self.assertEqual(one.forest(), two.forest())
        self.unlike(one, two)
        three.put(LEAF)
        three.take(2)
        self.assertEqual(three.forest(), F)
        self.unlike(three, Desk(F))

    def test_the_same_sequence_from_another_beginning(self):
        one, two = Desk(F), Desk(F[:2] + (F[2] + (ZERO,),))
        one.put(ZERO)
        self.assertEqual(one.forest(), two.forest())
        self.unlike(one, two)
        one, two = Desk(one_tree(ZERO)), Desk(one_tree(LEAF))
        one.set_leaf(0, "", (3, 3))
        two.set_leaf(0, "", (3, 3))
        self.assertEqual((one.forest(), len(one)), (two.forest(), len(two)))
        self.unlike(one, two)

    def test_unlike_forests_between(self):
        one, two = Desk(one_tree(ZERO)), Desk(one_tree(ZERO))
        for desk, vote in ((one, 4), (two, 5)):
            desk.set_leaf(0, "", (vote, 0))
            desk.set_leaf(0, "", (1, 1))
        self.assertEqual((one.forest(), len(one)), (two.forest(), len(two)))
        self.unlike(one, two)

    def test_the_same_forests_in_another_sequence(self):
        one, two = Desk(one_tree(ZERO)), Desk(one_tree(ZERO))
        for desk, row in ((one, (4, 5, 1)), (two, (5, 4, 1))):
            for vote in row:
                desk.set_leaf(0, "", (vote, 0))
        self.unlike(one, two)

    def test_other_values(self):
        desk = Desk(F)
        for value in wrong_values() + [F, F[2], [F], len(desk), object(), Desk, repr(desk), desk.forest]:
            self.unlike(desk, value)
        self.assertIs(desk in [F, None, 0], False)
        self.assertIs(desk in [F, Desk(F)], True)


class Refused(Case):
    def desks(self):
        """Desks with nothing, something to undo, and something to perform again, each with a twin."""
        made = []
        for calls in ("", "p", "pu", "psu", "psuu", "tus"):
            twins = [Desk(F), Desk(F)]
            for desk in twins:
                for sign in calls:
                    {"p": lambda: desk.put(LEAF), "s": lambda: desk.set_leaf(0, "1", (4, 4)),
                     "t": lambda: desk.take(0), "u": desk.undo}[sign]()
            made.append(twins)
        return made

    def everything(self, desk):
        """The forests to the very first one, then those to the very last one, and what the calls returned."""
        found = [(desk.forest(), len(desk))]
        for word in ("undo", "redo"):
            told = True
            while told is not None:
                try:
                    told = getattr(desk, word)()
                except NothingToUndo:
                    told = None
                found.append((word, told, desk.forest(), len(desk)))
        return found

    def test_a_call_that_raises_changes_nothing(self):
        for desk, twin in self.desks():
            self.refused(InvalidIndex, desk.set_leaf, -1, "0", (0, 0))
            self.refused(InvalidIndex, desk.set_leaf, 0, "", (0, 0))
            self.refused(InvalidTree, desk.set_leaf, 0, "0", (0, 10))
            self.refused(InvalidTree, desk.put, ("leaf", (0, 0, 0)))
            self.refused(InvalidIndex, desk.take, 4)
            self.refused(InvalidForest, Desk, desk)
            self.assertEqual(desk, twin)
            self.assertEqual(self.everything(desk), self.everything(twin))

    def test_undo_and_redo_that_raise_change_nothing(self):
        for desk, twin in self.desks():
            for word in ("undo", "redo"):
                steps = 0
                while self.goes(desk, word):
                    steps += 1
                for _ in range(3):
                    self.refused(NothingToUndo, getattr(desk, word))
                for _ in range(steps):
                    getattr(desk, "redo" if word == "undo" else "undo")()
                self.assertEqual(desk, twin)
            self.assertEqual(self.everything(desk), self.everything(twin))

    def goes(self, desk, word):
        try:
            getattr(desk, word)()
        except NothingToUndo:
            return False
        return True

    def test_four_trees_and_more(self):
        desk = Desk(one_tree(ZERO))
        for _ in range(3):
            desk.put(LEAF)
        self.refused(TooMany, desk.put, LEAF)
        self.refused(InvalidTree, desk.put, chain(8))
        self.assertEqual((desk.forest(), len(desk)), (F[:2] + ((ZERO, LEAF, LEAF, LEAF),), 3))
        desk.undo()
        desk.redo()
        desk.take(0)
        self.refused(NothingToUndo, desk.redo)
        desk.put(ZERO)
        self.assertEqual(desk.forest()[2], (LEAF, LEAF, LEAF, ZERO))

    def test_too_many_keeps_what_was_undone(self):
        desk = Desk(F[:2] + ((ZERO,) * 4,))
        desk.set_leaf(2, "", (5, 5))
        desk.undo()
        self.refused(TooMany, desk.put, LEAF)
        desk.redo()
        self.assertEqual(desk.forest()[2], (ZERO, ZERO, ("leaf", (5, 5)), ZERO))

    def test_no_other_tree(self):
        desk = Desk(one_tree(ZERO))
        for number in (0, 1, -1, True, None, "0"):
            self.refused(InvalidIndex, desk.take, number)
        self.assertEqual((desk.forest(), len(desk)), (one_tree(ZERO), 0))

    def test_invalid_forest(self):
        for value in wrong_values() + [one_tree(chain(8)), list(F), (("0",), 2, ()), Desk(F), ZERO]:
            self.refused(InvalidForest, Desk, value)

    def test_invalid_numbers(self):
        desk = Desk(F)
        for number in WRONG_NUMBERS:
            self.refused(InvalidIndex, desk.take, number)
            for way, votes in itertools.product(("0", "", None, 5), ((0, 0), (0, 10), None)):
                self.refused(InvalidIndex, desk.set_leaf, number, way, votes)
        self.assertEqual(desk, Desk(F))

    def test_invalid_ways(self):
        desk = Desk(F)
        for way in WRONG_WAYS:
            for number, votes in itertools.product((0, 1), ((0, 0), (0, 10), None)):
                self.refused(InvalidIndex, desk.set_leaf, number, way, votes)
        desk = Desk(one_tree(ZERO))
        for way in ("0", "1", " ", None, 0, (), [], "00"):
            self.refused(InvalidIndex, desk.set_leaf, 0, way, (0, 0))
        desk = Desk(one_tree(chain(7)))
        for deep in range(7):
            self.refused(InvalidIndex, desk.set_leaf, 0, "0" * deep, (0, 0))
        for way in ("0" * 8, "0" * 7 + "1", "10", "1" * 7):
            self.refused(InvalidIndex, desk.set_leaf, 0, way, (0, 0))

    def test_ways_of_another_tree(self):
        desk = Desk(parse_forest("0 2 (0<1 (0<0 [1 0] [2 0]) [3 0]) (0<1 [4 0] (0<2 [5 0] [6 0]))"))
        for number, ways in ((0, ("0", "10", "11")), (1, ("1", "00", "01"))):
            for way in ways:
                self.refused(InvalidIndex, desk.set_leaf, number, way, (0, 0))
                desk.set_leaf(1 - number, way, (0, 0))

    def test_invalid_votes(self):
        desk = Desk(F)
        for votes in WRONG_VOTES:
            self.refused(InvalidTree, desk.set_leaf, 0, "0", votes)
        self.assertEqual(desk, Desk(F))
        for votes in ((-9, 9), (9, -9), (0, 0)):
            desk.set_leaf(0, "0", votes)
            self.assertEqual(desk.forest()[2][0][3], ("leaf", votes))
        desk = Desk(one_tree(("leaf", (0, 0, 0)), answers=3))
        self.refused(InvalidTree, desk.set_leaf, 0, "", (0, 0))
        desk.set_leaf(0, "", (0, 0, 9))

    def test_invalid_trees(self):
        for desk in (Desk(F), Desk(F[:2] + ((ZERO,) * 4,))):
            for tree in WRONG_TREES:
                self.refused(InvalidTree, desk.put, tree)
        desk = Desk(one_tree(("leaf", (0, 0, 0)), ("0",), 3))
        for tree in (ZERO, among(0), among(1), below(1), below()):
            self.refused(InvalidTree, desk.put, tree)

    def test_trees_of_the_greatest_size(self):
        desk = Desk(F)
        desk.put(chain(7))
        desk.put(chain(7, True))
        self.assertEqual(desk.forest()[2][2:], (chain(7), chain(7, True)))
        desk = Desk(F)
        nine = below(0, (5, 1), below(0, (2, 1), chain(3), chain(3)), ZERO)
        self.refused(InvalidTree, desk.put, nine)
