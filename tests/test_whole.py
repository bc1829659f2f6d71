"""What DOC.md promises over the whole program."""

import importlib
import itertools
import random
import time
import unittest
from fractions import Fraction

from interface import INTERFACE
from plain import all_givens, all_leaves, asked, dense_givens, number, pair, plain_answer, plain_least
from samples import (
    F, F_TEXT, ZERO, below, chain, greatest_forest, one_tree, random_forests, small_forests, wrong_values,
)
from votewoods import errors
from votewoods.desks import Desk
from votewoods.forests import count_leaves, is_forest
from votewoods.forms import answers_form, parting_answers, parting_votes, same_answers, same_votes, votes_form
from votewoods.joining import as_one, joined
from votewoods.nearness import nearest
from votewoods.pruning import idle_trees, matters, parts_that_matter, unreached
from votewoods.reasons import broken_rise, is_rising, reasons
from votewoods.running import answer, gap, votes
from votewoods.shares import answers_told, least_gap, shares
from votewoods.single import fewest_leaves, flat_tree, least_depth, small_tree
from votewoods.texts import format_forest, parse_forest

SINGLE = (fewest_leaves, least_depth, small_tree, flat_tree)
# One good value for each parameter of the interface.
GOOD = {
    "forest": F, "other": F, "given": ((0, 1), "a"), "part": 1, "free": False, "box": (((0, 1), (2, 1)), None),
    "text": F_TEXT,
}
ERRORS = {
    "forest": errors.InvalidForest, "other": errors.InvalidForest, "given": errors.InvalidInput,
    "part": errors.InvalidPart, "free": errors.InvalidFlag, "box": errors.InvalidBox, "text": errors.InvalidText,
}
BIG = 10 ** 12


def functions():
    """All functions of the interface, with their parameters."""
    found = []
    for name, rows in INTERFACE.items():
        module = importlib.import_module("votewoods." + name)
        found += [(getattr(module, function), parameters) for function, parameters in rows.items()]
    return found


def wrong_for(parameter):
    """Values that are wrong for the parameter, beside the good value of GOOD."""
    if parameter == "part":
        return [value for value in wrong_values() if type(value) is not int] + [-1, 2, 10 ** 30, "0"]
    if parameter == "free":
        return [value for value in wrong_values() if type(value) is not bool]
    forest = [one_tree(chain(8)), one_tree(("leaf", (0, 10))), F[:2] + ((ZERO,) * 5,), F[:2] + ((),), F_TEXT]
    return wrong_values() + (forest if parameter in ("forest", "other") else [F])


def some_givens(rng, forest, many):
    givens = dense_givens(forest)
    return rng.sample(givens, min(many, len(givens)))


def changed_tests(tree, change):
    """The tree with other tests."""
    if tree[0] == "leaf":
        return tree
    return change(tree[:3]) + (changed_tests(tree[3], change), changed_tests(tree[4], change))


def changed_leaves(tree, change):
    if tree[0] == "leaf":
        return ("leaf", change(tree[1]))
    return tree[:3] + (changed_leaves(tree[3], change), changed_leaves(tree[4], change))


def negative(forest):
    return forest[:2] + (tuple(changed_leaves(tree, lambda own: tuple(-vote for vote in own)) for tree in forest[2]),)


class Refused(unittest.TestCase):
    """Sections 3 and 4: each exception is of its own class alone, and a ValueError."""

    def raised(self, function, *values):
        try:
            function(*values)
        except errors.VoteError as error:
            self.assertIsInstance(error, ValueError)
            return type(error)
        return None

    def test_the_first_wrong_argument_decides(self):
        for function, parameters in functions():
            if function is is_forest:
                continue
            good = [GOOD[parameter] for parameter in parameters]
            self.assertIs(self.raised(function, *good), None)
            for at, parameter in enumerate(parameters):
                for value in wrong_for(parameter):
                    for rest in (good[at + 1:], [value] * len(good[at + 1:]), [None] * len(good[at + 1:])):
                        with self.subTest(function=function.__name__, parameter=parameter, value=value):
                            self.assertIs(self.raised(function, *good[:at], value, *rest), ERRORS[parameter])

    def test_is_forest_accepts_any_value(self):
        for value in wrong_values() + [F_TEXT, ZERO, (F,), Desk(F), object(), b"0", {1, 2}, Fraction(1)]:
            self.assertIs(is_forest(value), False)
        self.assertIs(is_forest(F), True)

    def test_other_conditions(self):
        row = parse_forest("0 2 (0<1 [1 0] (0<2 [0 1] (0<3 [1 0] (0<4 [0 1] (0<5 [1 0] [0 1])))))")
        for function in SINGLE:
            self.assertIs(self.raised(function, row), errors.TooMany)
        other = one_tree(ZERO, ("0",))
        for function in (same_votes, same_answers, parting_votes, parting_answers, joined):
            self.assertIs(self.raised(function, F, other), errors.NoFit)
        self.assertIs(self.raised(joined, F, F[:2] + ((ZERO,) * 3,)), errors.TooMany)

    def test_desks(self):
        desk, four = Desk(one_tree(ZERO)), Desk(F[:2] + ((ZERO,) * 4,))
        rows = [
            (errors.InvalidForest, Desk, None), (errors.InvalidIndex, desk.set_leaf, 1, "", (0, 0)),
            (errors.InvalidIndex, desk.set_leaf, 0, "0", (0, 0)), (errors.InvalidTree, desk.set_leaf, 0, "", (0,)),
            (errors.InvalidTree, desk.put, F), (errors.TooMany, four.put, ZERO), (errors.InvalidTree, four.put, None),
            (errors.InvalidIndex, desk.take, 0), (errors.InvalidIndex, four.take, 4),
            (errors.NothingToUndo, desk.undo), (errors.NothingToUndo, desk.redo),
        ]
        for error, function, *values in rows:
            self.assertIs(self.raised(function, *values), error)


class Examples(unittest.TestCase):
    def test_all_examples(self):
        self.assertEqual(count_leaves(F), 4)
        self.assertEqual((format_forest(F), parse_forest(F_TEXT)), (F_TEXT, F))
        self.assertEqual(votes(F, ((0, 1), "a")), (1, 2))
        self.assertEqual(answer(F, ((0, 1), "b")), 0)
        self.assertEqual(gap(F, ((0, 1), "a")), 1)
        self.assertEqual(answers_form(F), ((((1, 1),), ("a", "b")), (1, 0, 1, 1)))
        self.assertIs(parting_votes(F, F), None)
        self.assertEqual((fewest_leaves(F), least_depth(F)), (3, 2))
        self.assertEqual(parts_that_matter(F), (0, 1))
        self.assertEqual(nearest(F, ((0, 1), "b"), False), ((1, 1), True))
        self.assertEqual(nearest(F, ((0, 1), "b"), True), ((0, 1), True))
        self.assertEqual(nearest(F, ((1, 1), "b"), False), ((0, 1), False))
        self.assertEqual(reasons(F, ((3, 1), "b")), ((0,),))
        self.assertIs(is_rising(F, 0), True)
        self.assertEqual(shares(F, (((0, 1), (2, 1)), None)), ((1, 4), (3, 4)))
        self.assertEqual((least_gap(F), answers_told(F)), (1, (0, 1)))

    def test_equal_arguments_give_equal_results(self):
        twin = parse_forest(F_TEXT)
        for function, parameters in functions():
            one = [GOOD.get(parameter, F) for parameter in parameters]
            two = [twin if value == F else value for value in one]
            self.assertEqual(function(*one), function(*two))
        self.assertEqual(twin, F)


class Moved(unittest.TestCase):
    """Moving all places by one number, and calling letters otherwise in the same sequence."""

    def check(self, forest, other, carry, rng):
        """Carry takes a part and one of its values, places and letters alike, into the other forest."""
        self.assertTrue(is_forest(other))
        kinds = forest[0]

        def carried(given):
            return tuple(carry(part, own) for part, own in enumerate(given))

        def carried_form(form):
            axes = []
            for part, axis in enumerate(form[0]):
                if kinds[part] == "0":
                    axes.append(tuple(carry(part, own) for own in axis))
                else:
                    axes.append(tuple("".join(carry(part, letter) for letter in own) for own in axis))
            return (tuple(axes), form[1])

        self.assertEqual(votes_form(other), carried_form(votes_form(forest)))
        self.assertEqual(answers_form(other), carried_form(answers_form(forest)))
        for function in (least_gap, answers_told, unreached, idle_trees, parts_that_matter, count_leaves):
            self.assertEqual(function(other), function(forest))
        many = max([len(axis) for kind, axis in zip(kinds, answers_form(forest)[0]) if kind == "0"], default=0)
        if many <= 4:
            self.assertEqual((fewest_leaves(other), least_depth(other)), (fewest_leaves(forest), least_depth(forest)))
        for part in range(len(kinds)):
            self.assertIs(is_rising(other, part), is_rising(forest, part))
        for given in some_givens(rng, forest, 4):
            for function in (votes, answer, gap, reasons):
                self.assertEqual(function(other, carried(given)), function(forest, given))
            for free in (False, True):
                self.assertEqual(nearest(other, carried(given), free), nearest(forest, given, free))
        self.assertEqual(as_one(other), changed_tests(as_one(forest), lambda test: self.carried_test(test, carry)))
        box = tuple(((-20, 1), (31, 3)) if kind == "0" else None for kind in kinds)
        ends = tuple(own and tuple(carry(part, end) for end in own) for part, own in enumerate(box))
        self.assertEqual(shares(other, ends), shares(forest, box))

    def carried_test(self, test, carry):
        word, part, bound = test
        return (word, part, carry(part, bound) if word == "below" else "".join(carry(part, x) for x in bound))

    def with_tests(self, forest, kinds, carry):
        trees = tuple(changed_tests(tree, lambda test: self.carried_test(test, carry)) for tree in forest[2])
        return (kinds, forest[1], trees)

    def test_places_moved_by_one_number(self):
        rng = random.Random(11)
        for forest in small_forests(120):
            by = rng.choice([1, -1, 7, -13, 20])

            def carry(part, own):
                return pair(number(own) + by) if forest[0][part] == "0" else own
            with self.subTest(forest=forest, by=by):
                self.check(forest, self.with_tests(forest, forest[0], carry), carry, rng)

    def test_halves(self):
        forest = parse_forest("0,ab,0 3 (0<1 [1 0 0] (2<3/2 [0 1 0] [0 0 1])) (1=a [1 1 0] (0<-1/2 [0 2 0] [2 0 0]))")
        for by in (Fraction(1, 2), Fraction(-3, 2), Fraction(1, 4)):
            def carry(part, own):
                return own if part == 1 else pair(number(own) + by)
            self.check(forest, self.with_tests(forest, forest[0], carry), carry, random.Random(12))

    def test_letters_called_otherwise(self):
        rng = random.Random(13)
        for forest in small_forests(120):
            kinds = tuple(kind if kind == "0" else "".join(sorted(rng.sample("acegikmoqsuwyz", len(kind))))
                          for kind in forest[0])

            def carry(part, own):
                return own if forest[0][part] == "0" else kinds[part][forest[0][part].index(own)]
            with self.subTest(forest=forest, kinds=kinds):
                self.check(forest, self.with_tests(forest, kinds, carry), carry, rng)


class Beside(unittest.TestCase):
    """A forest beside itself, beside its negative, and beside a tree of one leaf."""

    def forests(self):
        return [forest for forest in small_forests(160) if len(forest[2]) <= 2]

    def test_beside_itself(self):
        rng = random.Random(14)
        for forest in self.forests():
            with self.subTest(forest=forest):
                twice = joined(forest, forest)
                self.assertIs(same_answers(forest, twice), True)
                self.assertIs(parting_answers(forest, twice), None)
                self.assertEqual(answers_form(twice), answers_form(forest))
                axes, entries = votes_form(forest)
                self.assertEqual(votes_form(twice), (axes, tuple(tuple(2 * vote for vote in own) for own in entries)))
                self.assertIs(same_votes(forest, twice), set(entries) == {(0,) * forest[1]})
                self.assertEqual(least_gap(twice), 2 * least_gap(forest))
                self.assertEqual(fewest_leaves(twice), fewest_leaves(forest))
                self.assertEqual(least_depth(twice), least_depth(forest))
                self.assertEqual(parts_that_matter(twice), parts_that_matter(forest))
                self.assertEqual(count_leaves(twice), 2 * count_leaves(forest))
                many = len(forest[2])
                gone = unreached(forest)
                self.assertEqual(unreached(twice), gone + tuple((at + many, way) for at, way in gone))
                self.assertEqual(as_one(twice), changed_leaves(as_one(forest), lambda own: tuple(2 * x for x in own)))
                if many == 1:
                    self.assertEqual(idle_trees(twice), (0, 1))
                for given in some_givens(rng, forest, 4):
                    self.assertEqual(gap(twice, given), 2 * gap(forest, given))
                    self.assertEqual(reasons(twice, given), reasons(forest, given))
                    self.assertEqual(nearest(twice, given, True), nearest(forest, given, True))
                box = tuple(((-1, 2), (7, 3)) if kind == "0" else None for kind in forest[0])
                self.assertEqual(shares(twice, box), shares(forest, box))

    def test_beside_its_negative(self):
        rng = random.Random(15)
        for forest in self.forests():
            with self.subTest(forest=forest):
                none = joined(forest, negative(forest))
                kinds, answers, _ = forest
                axes = tuple(() if kind == "0" else (kind,) for kind in kinds)
                self.assertEqual(votes_form(none), (axes, ((0,) * answers,)))
                self.assertEqual(answers_form(none), (axes, (0,)))
                self.assertIs(same_votes(none, (kinds, answers, (("leaf", (0,) * answers),))), True)
                self.assertEqual((fewest_leaves(none), least_depth(none)), (1, 0))
                leaf = ("leaf", (1,) + (0,) * (answers - 1))
                self.assertEqual((small_tree(none), flat_tree(none)), (leaf, leaf))
                self.assertEqual((least_gap(none), answers_told(none), parts_that_matter(none)), (0, (0,), ()))
                zero = changed_leaves(as_one(forest), lambda own: (0,) * answers)
                self.assertEqual(as_one(none), zero)
                for part in range(len(kinds)):
                    self.assertIs(matters(none, part), False)
                    self.assertIs(is_rising(none, part), True)
                    self.assertIs(broken_rise(none, part), None)
                for given in some_givens(rng, forest, 3):
                    self.assertEqual((votes(none, given), gap(none, given)), ((0,) * answers, 0))
                    self.assertEqual(reasons(none, given), ((),))
                    self.assertIs(nearest(none, given, True), None)
                    self.assertIs(nearest(none, given, False), None)
                box = tuple(((0, 1), (1, 99)) if kind == "0" else None for kind in kinds)
                self.assertEqual(shares(none, box), ((1, 1),) + ((0, 1),) * (answers - 1))

    def test_beside_a_tree_of_one_leaf(self):
        rng = random.Random(16)
        for forest in self.forests():
            kinds, answers, trees = forest
            for own in ((0,) * answers, (4,) * answers, tuple(range(answers))):
                leaf = (kinds, answers, (("leaf", own),))
                with self.subTest(forest=forest, leaf=own):
                    found = joined(forest, leaf)
                    axes, entries = votes_form(forest)
                    told = tuple(tuple(map(sum, zip(entry, own))) for entry in entries)
                    self.assertEqual(votes_form(found), (axes, told))
                    self.assertEqual(votes_form(joined(leaf, forest)), (axes, told))
                    self.assertEqual(unreached(found), unreached(forest))
                    sums = changed_leaves(as_one(forest), lambda old: tuple(map(sum, zip(old, own))))
                    self.assertEqual((as_one(found), as_one(joined(leaf, forest))), (sums, sums))
                    if len(set(own)) == 1:
                        self.assertEqual(answers_form(found), answers_form(forest))
                        self.assertIs(same_votes(forest, found), own[0] == 0)
                        self.assertIn(len(trees), idle_trees(found))
                        self.assertEqual(least_gap(found), least_gap(forest))
                        for given in some_givens(rng, forest, 2):
                            self.assertEqual(reasons(found, given), reasons(forest, given))
                            self.assertEqual(nearest(found, given, False), nearest(forest, given, False))

    def test_on_a_desk(self):
        for forest in self.forests()[:40]:
            desk = Desk(forest)
            for tree in forest[2]:
                desk.put(tree)
            self.assertEqual(desk.forest(), joined(forest, forest))
            desk = Desk(forest)
            self.assertIs(desk.put(("leaf", (0,) * forest[1])), False)


class Alone(unittest.TestCase):
    """The small, the flat and the one tree of a forest, as forests of their own."""

    def test_small_and_flat_trees(self):
        rng, met = random.Random(17), 0
        for forest in small_forests(250):
            kinds, answers, _ = forest
            for tree in (small_tree(forest), flat_tree(forest)):
                alone = (kinds, answers, (tree,))
                if not is_forest(alone):
                    ways = [way for way, _ in all_leaves(tree)]
                    self.assertTrue(len(ways) > 8 or max(map(len, ways)) > 7)
                    continue
                met += 1
                with self.subTest(forest=forest):
                    self.assertIs(same_answers(forest, alone), True)
                    self.assertIs(parting_answers(forest, alone), None)
                    self.assertEqual(answers_form(alone), answers_form(forest))
                    self.assertEqual((fewest_leaves(alone), least_depth(alone)),
                                     (fewest_leaves(forest), least_depth(forest)))
                    self.assertEqual(unreached(alone), ())
                    self.assertEqual(idle_trees(alone), ())
                    self.assertEqual(parts_that_matter(alone), parts_that_matter(forest))
                    self.assertEqual((least_gap(alone), answers_told(alone)), (1, answers_told(forest)))
                    self.assertEqual(as_one(alone), tree)
                    self.assertEqual(parse_forest(format_forest(alone)), alone)
                    for given in some_givens(rng, forest, 3):
                        self.assertEqual(reasons(alone, given), reasons(forest, given))
                        self.assertEqual(nearest(alone, given, True), nearest(forest, given, True))
        self.assertGreater(met, 400)

    def test_the_fewest_leaves_of_the_small_tree(self):
        for forest in small_forests(250):
            alone = forest[:2] + ((small_tree(forest),),)
            if is_forest(alone):
                self.assertEqual(count_leaves(alone), fewest_leaves(forest))

    def test_the_one_tree(self):
        met = 0
        for forest in small_forests(250):
            alone = forest[:2] + ((as_one(forest),),)
            if is_forest(alone):
                met += 1
                self.assertIs(same_votes(forest, alone), True)
                self.assertEqual(unreached(alone), ())
                self.assertEqual(as_one(alone), alone[2][0])
        self.assertGreater(met, 100)


class ByHand(unittest.TestCase):
    """Forests whose answers can be told by hand."""

    def test_one_test_of_a_fraction(self):
        for top, bottom in ((0, 1), (1, 1), (-99, 4), (99, 1), (1, 3)):
            place, forest = (top, bottom), one_tree(below(0, (top, bottom), ("leaf", (3, 0)), ("leaf", (0, 2))), ("0",))
            before, behind = (top - bottom, bottom), (top + bottom, bottom)
            self.assertEqual(answers_form(forest), (((place,),), (0, 1)))
            self.assertEqual(votes_form(forest), (((place,),), ((3, 0), (0, 2))))
            self.assertEqual((fewest_leaves(forest), least_depth(forest)), (2, 1))
            tree = ("below", 0, place, ("leaf", (1, 0)), ("leaf", (0, 1)))
            self.assertEqual((small_tree(forest), flat_tree(forest)), (tree, tree))
            self.assertEqual((unreached(forest), idle_trees(forest), parts_that_matter(forest)), ((), (), (0,)))
            self.assertEqual(nearest(forest, (before,), True), ((1, 1), True))
            self.assertEqual(nearest(forest, (behind,), True), ((1, 1), False))
            self.assertEqual(nearest(forest, (place,), False), ((0, 1), False))
            self.assertEqual(reasons(forest, (place,)), ((0,),))
            self.assertEqual((is_rising(forest, 0), broken_rise(forest, 0)), (True, None))
            self.assertEqual(shares(forest, ((before, behind),)), ((1, 2), (1, 2)))
            self.assertEqual((least_gap(forest), answers_told(forest)), (2, (0, 1)))
            self.assertEqual(as_one(forest), forest[2][0])

    def test_one_test_of_a_letter(self):
        forest = parse_forest("0,abcd 2 (1=bd [0 1] [1 0])")
        self.assertEqual(answers_form(forest), (((), ("ac", "bd")), (0, 1)))
        self.assertEqual((fewest_leaves(forest), least_depth(forest), parts_that_matter(forest)), (2, 1, (1,)))
        for letter in "abcd":
            self.assertEqual(reasons(forest, ((5, 1), letter)), ((1,),))
            self.assertEqual(nearest(forest, ((5, 1), letter), True), ((0, 1), True))
            self.assertIs(nearest(forest, ((5, 1), letter), False), None)
        self.assertEqual((is_rising(forest, 0), is_rising(forest, 1)), (True, False))
        self.assertIn(broken_rise(forest, 1), [(((0, 1), "b"), ((0, 1), "c"))])
        self.assertEqual(shares(forest, (((0, 1), (1, 1)), None)), ((1, 2), (1, 2)))

    def parity(self):
        def tree(part, odd):
            if part == 3:
                return ("leaf", (int(not odd), int(odd)))
            return ("among", part, "a", tree(part + 1, odd), tree(part + 1, not odd))
        return (("ab", "ab", "ab"), 2, (tree(0, False),))

    def test_the_parity_of_three_letters(self):
        forest = self.parity()
        self.assertEqual(answers_form(forest), ((("a", "b"),) * 3, (0, 1, 1, 0, 1, 0, 0, 1)))
        self.assertEqual((fewest_leaves(forest), least_depth(forest)), (8, 3))
        self.assertEqual((unreached(forest), idle_trees(forest), parts_that_matter(forest)), ((), (), (0, 1, 2)))
        for given in itertools.product("ab", repeat=3):
            self.assertEqual(answer(forest, given), given.count("b") % 2)
            self.assertEqual(reasons(forest, given), ((0, 1, 2),))
            self.assertEqual(nearest(forest, given, True), ((0, 1), True))
            self.assertIs(nearest(forest, given, False), None)
        for part in range(3):
            self.assertIs(is_rising(forest, part), False)
            low, high = broken_rise(forest, part)
            self.assertEqual((low[part], high[part], low.count("b") % 2, high.count("b") % 2), ("a", "b", 1, 0))
        self.assertEqual(shares(forest, (None,) * 3), ((1, 2), (1, 2)))
        self.assertEqual((least_gap(forest), answers_told(forest), as_one(forest)), (1, (0, 1), forest[2][0]))

    def test_the_parity_beside_its_letters(self):
        forest = joined(self.parity(), parse_forest("ab,ab,ab 2 (0=a [0 0] [0 0]) (1=ab [2 2] [0 0])"))
        self.assertEqual(fewest_leaves(forest), 8)
        self.assertEqual(idle_trees(forest), (1, 2))
        self.assertEqual(unreached(forest), ((2, "1"),))

    def row(self, many):
        """Answers in turn at the places 0, 1, 2 .."""
        tree = ("leaf", (1, 0) if many % 2 == 0 else (0, 1))
        for at in range(many - 1, -1, -1):
            tree = below(0, (at, 1), ("leaf", (1, 0) if at % 2 == 0 else (0, 1)), tree)
        return one_tree(tree, ("0",))

    def test_rows_of_tests(self):
        for many in range(8):
            forest = self.row(many)
            turns = tuple(at % 2 for at in range(many + 1))
            self.assertEqual(answers_form(forest), ((tuple((at, 1) for at in range(many)),), turns))
            if many <= 4:
                self.assertEqual(fewest_leaves(forest), many + 1)
                self.assertEqual(least_depth(forest), many.bit_length())
                self.assertEqual(len(all_leaves(small_tree(forest))), many + 1)
            else:
                for function in SINGLE:
                    self.assertRaises(errors.TooMany, function, forest)
            self.assertEqual(parts_that_matter(forest), (0,) if many else ())
            self.assertIs(is_rising(forest, 0), many < 2)
            self.assertEqual(as_one(forest), forest[2][0])
            if many:
                self.assertEqual(shares(forest, (((-1, 1), (many, 1)),)),
                                 (pair(Fraction(many // 2 + 1, many + 1)), pair(Fraction((many + 1) // 2, many + 1))))
                self.assertEqual(nearest(forest, ((-1, 2),), True), ((1, 2), True))
                self.assertEqual(nearest(forest, ((2 * many - 1, 2),), True), ((1, 2), False))

    def test_rows_of_tests_in_several_trees(self):
        """Each tree changes the answer at one place more."""
        forest = parse_forest("0 2 (0<0 [1 0] [0 1]) (0<1 [0 0] [2 0]) (0<2 [0 0] [0 2]) (0<3 [0 0] [2 0])")
        self.assertEqual(answers_form(forest), ((((0, 1), (1, 1), (2, 1), (3, 1)),), (0, 1, 0, 1, 0)))
        self.assertEqual((fewest_leaves(forest), least_depth(forest)), (5, 3))
        self.assertEqual(as_one(forest)[:3], ("below", 0, (0, 1)))
        self.assertEqual(len(all_leaves(as_one(forest))), 5)
        self.assertEqual((least_gap(forest), idle_trees(forest)), (1, ()))


class Near(unittest.TestCase):
    """The distances told for two inputs with the same marks."""

    def distance(self, one, two):
        return max([abs(number(a) - number(b)) for a, b in zip(one, two) if not isinstance(a, str)], default=0)

    def check(self, forest, one, two):
        apart = self.distance(one, two)
        for free in (False, True):
            with self.subTest(forest=forest, one=one, two=two, free=free):
                first, second = nearest(forest, one, free), nearest(forest, two, free)
                if answer(forest, one) != answer(forest, two):
                    self.assertLessEqual(number(first[0]), apart)
                    self.assertLessEqual(number(second[0]), apart)
                elif first is None or second is None:
                    self.assertEqual(first, second)
                else:
                    self.assertLessEqual(abs(number(first[0]) - number(second[0])), apart)

    def test_two_inputs_with_the_same_marks(self):
        rng, met = random.Random(18), set()
        for forest in small_forests(200) + random_forests(30):
            givens = some_givens(rng, forest, 12)
            for one, two in zip(givens, givens[1:]):
                two = tuple(a if isinstance(a, str) else b for a, b in zip(one, two))
                self.check(forest, one, two)
                met.add(answer(forest, one) == answer(forest, two))
        self.assertEqual(met, {False, True})

    def test_inputs_that_are_far_apart(self):
        self.check(F, ((-BIG, 1), "b"), ((BIG, 1), "b"))
        self.check(F, ((1, BIG), "a"), ((-1, BIG), "a"))
        self.check(F, ((BIG - 1, BIG), "b"), ((1, 1), "b"))


class Least(unittest.TestCase):
    """Promises over trees and places at once."""

    def test_trees_are_the_least_for_joined_forests(self):
        forests = sorted(small_forests(200), key=lambda forest: forest[:2])
        met = 0
        for forest, other in zip(forests, forests[1:]):
            if forest[:2] == other[:2] and len(forest[2] + other[2]) <= 4:
                found = joined(forest, other)
                if len(all_givens(found)) <= 40 and all(len(asked(part, found)) <= 4 for part in range(len(found[0]))):
                    self.assertEqual(fewest_leaves(found), plain_least(found, 1, lambda one, two: one + two))
                    met += 1
        self.assertGreater(met, 20)

    def test_answers_told_are_those_of_the_form_and_of_the_shares(self):
        for forest in small_forests(150):
            told = answers_told(forest)
            self.assertEqual(told, tuple(sorted(set(answers_form(forest)[1]))))
            box = tuple(((-999, 1), (999, 1)) if kind == "0" else None for kind in forest[0])
            self.assertEqual(told, tuple(at for at, share in enumerate(shares(forest, box)) if share != (0, 1)))
            self.assertEqual(told, tuple(sorted({plain_answer(forest, given) for given in all_givens(forest)})))

    def test_the_greatest_forests_in_a_few_seconds(self):
        for forest in (greatest_forest(1), self.with_letters()):
            self.assertTrue(is_forest(forest))
            given = all_givens(forest)[-1]
            values = {**GOOD, "forest": forest, "other": forest, "given": given, "text": format_forest(forest)}
            values["box"] = tuple(((-999, 98), (999, 97)) if kind == "0" else None for kind in forest[0])
            for function, parameters in functions():
                if function not in SINGLE and function is not joined:
                    started = time.process_time()
                    function(*[values.get(parameter, forest) for parameter in parameters])
                    self.assertLess(time.process_time() - started, 3, function.__name__)

    def with_letters(self):
        """Four trees with eight leaves each, over two parts of four letters and one of numbers."""
        rng = random.Random(19)
        trees = []
        for at in range(4):
            tree = ("leaf", tuple(rng.randint(-9, 9) for _ in range(3)))
            for step in range(7):
                leaf = ("leaf", tuple(rng.randint(-9, 9) for _ in range(3)))
                part = (at + step) % 3
                if part == 2:
                    tree = below(2, (rng.randint(-99, 99), 1), leaf, tree)
                else:
                    tree = ("among", part, "".join(sorted(rng.sample("abcd", rng.randint(1, 3)))), leaf, tree)
            trees.append(tree)
        return (("abcd", "abcd", "0"), 3, tuple(trees))
