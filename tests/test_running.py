"""Sections 2.4 and 5: votes, answers and gaps."""

import copy
import unittest

from plain import plain_votes
from samples import F, chain, one_tree, random_forests, wrong_values
from votewoods.errors import InvalidForest, InvalidInput
from votewoods.running import answer, gap, votes
from votewoods.texts import parse_forest

BIG = 10 ** 12
ALL = (votes, answer, gap)


def given_for(kinds, at):
    """One of several inputs for the kinds, told by a number."""
    values = [(0, 1), (1, 1), (-99, 1), (99, 4), (-1, 2), (1, 3), (7, 5), (-BIG, 1), (1, BIG), (-BIG, BIG - 1)]
    given = []
    for kind in kinds:
        given.append(values[at % len(values)] if kind == "0" else kind[at % len(kind)])
        at = at // 2 + 3
    return tuple(given)


class Examples(unittest.TestCase):
    def test_votes(self):
        self.assertEqual(votes(F, ((0, 1), "a")), (1, 2))
        self.assertEqual(votes(F, ((0, 1), "b")), (1, 0))
        self.assertEqual(votes(F, ((1, 1), "a")), (0, 3))
        self.assertEqual(votes(F, ((1, 1), "b")), (0, 1))

    def test_answer(self):
        self.assertEqual(answer(F, ((0, 1), "b")), 0)
        self.assertEqual(answer(F, ((0, 1), "a")), 1)
        self.assertEqual(answer(F, ((1, 1), "b")), 1)

    def test_gap(self):
        self.assertEqual(gap(F, ((0, 1), "a")), 1)
        self.assertEqual(gap(F, ((1, 1), "a")), 3)

    def test_kinds_of_values(self):
        self.assertIs(type(votes(F, ((0, 1), "a"))), tuple)
        self.assertIs(type(answer(F, ((0, 1), "a"))), int)
        self.assertIs(type(gap(F, ((0, 1), "a"))), int)


class Places(unittest.TestCase):
    def check(self, place, below, others):
        forest = parse_forest(f"0 2 (0<{place} [1 0] [0 1])")
        for fraction in below:
            with self.subTest(place=place, fraction=fraction):
                self.assertEqual(votes(forest, (fraction,)), (1, 0))
                self.assertEqual(answer(forest, (fraction,)), 0)
        for fraction in others:
            with self.subTest(place=place, fraction=fraction):
                self.assertEqual(votes(forest, (fraction,)), (0, 1))
                self.assertEqual(answer(forest, (fraction,)), 1)

    def test_at_a_place_just_below_and_above(self):
        self.check("1", [(BIG - 1, BIG), (0, 1), (-BIG, 1)], [(1, 1), (BIG, BIG - 1), (BIG, 1)])
        self.check("0", [(-1, BIG), (-1, 1)], [(0, 1), (1, BIG), (1, 1)])
        self.check("1/2", [(499999999999, BIG - 1), (1, 3), (-1, 2)], [(1, 2), (500000000000, BIG - 1), (2, 3)])
        self.check("-1/3", [(-1, 2), (-333333333334, BIG - 1), (-1, 1)], [(-1, 3), (-1, 4), (0, 1)])
        self.check("-99/4", [(-99, 1), (-BIG, 1), (-25, 1), (-149, 6)], [(-99, 4), (-123, 5), (-24, 1), (99, 4)])
        self.check("99", [(98, 1), (99, 4), (98999999999, 10 ** 9)], [(99, 1), (99000000001, 10 ** 9)])

    def test_each_part_by_itself(self):
        forest = parse_forest("0,0,0 2 (0<0 [1 0] [0 0]) (1<0 [2 0] [0 0]) (2<0 [4 0] [0 0])")
        for number in range(8):
            given = tuple((-1, 1) if number >> part & 1 else (1, 1) for part in range(3))
            self.assertEqual(votes(forest, given), (number, 0))

    def test_several_tests_on_a_way(self):
        forest = parse_forest("0 3 (0<2 (0<1 [1 0 0] [0 1 0]) (0<3 [0 0 1] [5 5 5]))")
        told = [votes(forest, ((top, 1),)) for top in range(5)]
        self.assertEqual(told, [(1, 0, 0), (0, 1, 0), (0, 0, 1), (5, 5, 5), (5, 5, 5)])

    def test_longest_way(self):
        forest = one_tree(chain(7), ("0",))
        self.assertEqual(votes(forest, ((-1, 1),)), (0, 0))


class Marks(unittest.TestCase):
    def test_marks(self):
        forest = parse_forest("abcd 2 (0=bd [1 0] [0 1])")
        self.assertEqual([answer(forest, (mark,)) for mark in "abcd"], [1, 0, 1, 0])

    def test_all_marks(self):
        forest = parse_forest("xyz 2 (0=xyz [1 0] [0 1])")
        self.assertEqual([votes(forest, (mark,)) for mark in "xyz"], [(1, 0)] * 3)

    def test_several_tests_on_a_way(self):
        forest = parse_forest("abc,xy 3 (0=ab (0=a [1 0 0] [0 1 0]) (1=x [0 0 1] [2 2 2]))")
        self.assertEqual([votes(forest, (mark, "x")) for mark in "abc"], [(1, 0, 0), (0, 1, 0), (0, 0, 1)])
        self.assertEqual([votes(forest, (mark, "y")) for mark in "abc"], [(1, 0, 0), (0, 1, 0), (2, 2, 2)])


class Sums(unittest.TestCase):
    def test_sums_over_several_trees(self):
        forest = parse_forest("0 3 [1 2 3] [-9 9 0] [4 -5 -9] [9 9 -9]")
        self.assertEqual(votes(forest, ((0, 1),)), (5, 15, -15))
        self.assertEqual(answer(forest, ((0, 1),)), 1)
        self.assertEqual(gap(forest, ((0, 1),)), 10)

    def test_the_greatest_sums(self):
        self.assertEqual(votes(parse_forest("0 2 [9 -9] [9 -9] [9 -9] [9 -9]"), ((0, 1),)), (36, -36))
        self.assertEqual(gap(parse_forest("0 2 [9 -9] [9 -9] [9 -9] [9 -9]"), ((0, 1),)), 72)

    def check(self, text, number, amount):
        with self.subTest(text=text):
            self.assertEqual(answer(parse_forest(text), ((0, 1),)), number)
            self.assertEqual(gap(parse_forest(text), ((0, 1),)), amount)

    def test_of_several_greatest_sums_the_first(self):
        self.check("0 2 [0 0]", 0, 0)
        self.check("0 2 [-9 -9]", 0, 0)
        self.check("0 3 [2 2 2]", 0, 0)
        self.check("0 3 [2 2 1]", 0, 0)
        self.check("0 3 [2 1 2]", 0, 0)
        self.check("0 3 [1 2 2]", 1, 0)
        self.check("0 2 [1 0] [0 1]", 0, 0)
        self.check("0 3 [1 0 5] [0 6 1] [5 0 -9]", 0, 0)

    def test_gaps(self):
        self.check("0 2 [1 2]", 1, 1)
        self.check("0 2 [2 1]", 0, 1)
        self.check("0 2 [-9 9]", 1, 18)
        self.check("0 3 [1 2 4]", 2, 2)
        self.check("0 3 [4 2 1]", 0, 2)
        self.check("0 3 [2 1 4]", 2, 2)
        self.check("0 3 [1 4 2]", 1, 2)
        self.check("0 3 [-3 -1 -2]", 1, 1)

    def test_many_forests(self):
        for forest in random_forests(150):
            for at in range(12):
                given = given_for(forest[0], at)
                sums = plain_votes(forest, given)
                best = sorted(sums)
                self.assertEqual(votes(forest, given), sums)
                self.assertEqual(answer(forest, given), sums.index(best[-1]))
                self.assertEqual(gap(forest, given), best[-1] - best[-2])


class WrongArguments(unittest.TestCase):
    def refused(self, error, forest, *values):
        for function in ALL:
            for given in values:
                with self.subTest(function=function.__name__, given=given), self.assertRaises(error):
                    function(forest, given)

    def test_invalid_forest(self):
        for value in wrong_values():
            self.refused(InvalidForest, value, ((0, 1), "a"))
        self.refused(InvalidForest, one_tree(chain(8)), ((0, 1), "a"))
        self.refused(InvalidForest, list(F), ((0, 1), "a"))

    def test_invalid_forest_before_invalid_input(self):
        self.refused(InvalidForest, None, *wrong_values())
        self.refused(InvalidForest, (("0",), 2, ()), None, (), ("a",))

    def test_invalid_input(self):
        self.refused(InvalidInput, F, *wrong_values())

    def test_too_short_or_too_long(self):
        self.refused(InvalidInput, F, (), ((0, 1),), ("a",), ((0, 1), "a", "a"), ((0, 1), "a", (0, 1)))
        self.refused(InvalidInput, parse_forest("0 2 [0 0]"), (), (0, 1), ((0, 1), (0, 1)))
        self.refused(InvalidInput, parse_forest("ab 2 [0 0]"), (), "a", "ab", ("a", "b"))
        self.refused(InvalidInput, parse_forest("ab,ab 2 [0 0]"), "ab", "aa", ("a",), ("ab",), ("a", "b", "a"))

    def test_lists_and_dicts(self):
        self.refused(InvalidInput, F, [(0, 1), "a"], ([0, 1], "a"), ((0, 1), ["a"]), {(0, 1): "a"}, {0: (0, 1), 1: "a"})
        self.refused(InvalidInput, F, ((0, 1), ("a",)), (((0, 1),), "a"), (((0, 1), "a"),))

    def test_fractions(self):
        wrong = [(2, 2), (2, 4), (-2, 4), (0, 2), (0, -1), (1, 0), (0, 0), (1, -1), (-1, -2), (6, 3), (BIG, BIG)]
        wrong += [(True, 1), (False, 1), (1, True), (1.0, 1), (1, 1.0), ("1", 1), (1, "1"), (None, 1), (1, None)]
        wrong += [(), (1,), (1, 1, 1), 1, 0, 0.5, "1", "1/2", None, True, (BIG, 2), ((1, 1), 1), (10, BIG)]
        self.refused(InvalidInput, F, *[(fraction, "a") for fraction in wrong])

    def test_bounds_of_fractions(self):
        allowed = [(BIG, 1), (-BIG, 1), (1, BIG), (-1, BIG), (BIG - 1, BIG), (BIG, BIG - 1), (-BIG, BIG - 1)]
        for fraction in allowed:
            for function in ALL:
                function(F, (fraction, "a"))
        wrong = [(BIG + 1, 1), (-BIG - 1, 1), (1, BIG + 1), (-1, BIG + 1), (0, BIG), (BIG + 1, BIG), (10 ** 5000, 1)]
        self.refused(InvalidInput, F, *[(fraction, "a") for fraction in wrong + [(1, 10 ** 5000), (-10 ** 5000, 1)]])

    def test_marks(self):
        wrong = ["", "c", "ab", "aa", "ba", "A", "0", " ", "a ", "a\n", b"a", 0, None, True, 0.5, ("a",), ["a"], "\ud800"]
        self.refused(InvalidInput, F, *[((0, 1), mark) for mark in wrong])

    def test_fraction_for_a_mark_and_mark_for_a_fraction(self):
        self.refused(InvalidInput, F, ("a", (0, 1)), ("a", "a"), ((0, 1), (0, 1)), ("0", "a"))

    def test_marks_of_another_part(self):
        forest = parse_forest("ab,cd 2 [0 0]")
        self.refused(InvalidInput, forest, ("c", "d"), ("a", "b"), ("c", "a"))
        self.assertEqual(votes(forest, ("a", "c")), (0, 0))

    def test_each_part_counts(self):
        forest = parse_forest("0,0,0 2 [0 0]")
        for part in range(3):
            given = [(0, 1)] * 3
            given[part] = (0, 2)
            self.refused(InvalidInput, forest, tuple(given))


class NoEffects(unittest.TestCase):
    def test_equal_arguments_give_equal_results(self):
        for forest in random_forests(30):
            given = given_for(forest[0], 5)
            for function in ALL:
                self.assertEqual(function(forest, given), function(copy.deepcopy(forest), copy.deepcopy(given)))

    def test_arguments_stay_as_they_are(self):
        wrong = [[(0, 1), "a"], {"a": [1, 2]}, ([0, 1], ["a"])]
        for given in wrong:
            before = copy.deepcopy(given)
            for function in ALL:
                self.assertRaises(InvalidInput, function, F, given)
                self.assertRaises(InvalidForest, function, given, given)
            self.assertEqual(given, before)
