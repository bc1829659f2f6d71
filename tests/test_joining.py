"""Sections 3 and 12: joining forests, and making a forest one tree."""

import itertools
import time
import unittest

from plain import all_givens, all_leaves, all_tests, dense_givens, plain_votes, way_to_leaf
from samples import (
    F, ZERO, below, chain, full, greatest_forest, one_tree, random_forests, small_forests, wrong_values,
)
from votewoods.errors import InvalidForest, NoFit, TooMany
from votewoods.forests import is_forest
from votewoods.joining import as_one, joined
from votewoods.running import votes
from votewoods.texts import parse_forest


def grafted(tree, others, sums):
    """The tree with the others in the place of each leaf, and so on, nothing being left out."""
    if tree[0] != "leaf":
        return tree[:3] + (grafted(tree[3], others, sums), grafted(tree[4], others, sums))
    sums = tuple(map(sum, zip(sums, tree[1])))
    return grafted(others[0], others[1:], sums) if others else ("leaf", sums)


def cut(tree, gone, way=""):
    """The tree without the tests from which no input goes on by one of the two signs."""
    if tree[0] == "leaf":
        return tree
    first, second = [cut(tree[3 + int(sign)], gone, way + sign) if way + sign in gone else None for sign in "01"]
    return tree[:3] + (first, second) if first and second else first or second


def plain_one(forest):
    kinds, answers, trees = forest
    whole = grafted(trees[0], trees[1:], (0,) * answers)
    ways = {way_to_leaf(whole, given) for given in all_givens(forest)}
    return cut(whole, {way[:many] for way in ways for many in range(len(way) + 1)})


def cube(place, part=0):
    """A tree that asks in each of three parts whether it is below the place."""
    if part == 3:
        return ("leaf", (place, part))
    return below(part, (place, 1), cube(place, part + 1), cube(place, part + 1))


class Joined(unittest.TestCase):
    def test_trees_in_their_sequence(self):
        kinds, answers, trees = F
        self.assertEqual(joined(F, F), (kinds, answers, trees + trees))
        other = (kinds, answers, (ZERO, ("leaf", (1, 2))))
        self.assertEqual(joined(F, other), (kinds, answers, trees + other[2]))
        self.assertEqual(joined(other, F), (kinds, answers, other[2] + trees))

    def test_the_arguments_are_as_they_were(self):
        forest, other = parse_forest("0 2 [1 2]"), parse_forest("0 2 [3 4] [5 6]")
        self.assertEqual(joined(forest, other), parse_forest("0 2 [1 2] [3 4] [5 6]"))
        self.assertEqual([forest, other], [parse_forest("0 2 [1 2]"), parse_forest("0 2 [3 4] [5 6]")])

    def test_up_to_four_trees(self):
        for one, two in itertools.product(range(1, 5), range(1, 5)):
            forest, other = (("0",), 2, (("leaf", (1, 0)),) * one), (("0",), 2, (("leaf", (0, 1)),) * two)
            with self.subTest(one=one, two=two):
                if one + two <= 4:
                    found = joined(forest, other)
                    self.assertEqual(found, (("0",), 2, forest[2] + other[2]))
                    self.assertIs(is_forest(found), True)
                else:
                    with self.assertRaises(TooMany):
                        joined(forest, other)

    def test_votes_are_the_sums(self):
        forests = sorted(small_forests(400), key=lambda forest: forest[:2])
        met = 0
        for forest, other in zip(forests, forests[1:]):
            if forest[:2] == other[:2] and len(forest[2] + other[2]) <= 4:
                found = joined(forest, other)
                self.assertIs(is_forest(found), True)
                for given in dense_givens(forest, other)[::23]:
                    sums = tuple(map(sum, zip(plain_votes(forest, given), plain_votes(other, given))))
                    self.assertEqual(votes(found, given), sums)
                met += 1
        self.assertGreater(met, 100)


class One(unittest.TestCase):
    def check(self, text, told):
        """The tree is the only one of the told forest, which has the votes beyond the limits as they are."""
        with self.subTest(text=text):
            self.assertEqual(as_one(parse_forest(text)), parse_forest(told)[2][0])

    def test_example(self):
        self.assertEqual(as_one(F), (
            "below", 0, (1, 1),
            ("among", 1, "a", ("leaf", (1, 2)), ("leaf", (1, 0))),
            ("among", 1, "a", ("leaf", (0, 3)), ("leaf", (0, 1))),
        ))

    def test_one_tree(self):
        self.check("0 2 [3 -4]", "0 2 [3 -4]")
        self.check("0,ab 2 (0<1 (1=a [1 0] [0 1]) [2 2])", "0,ab 2 (0<1 (1=a [1 0] [0 1]) [2 2])")

    def test_leaves_are_added_up(self):
        self.check("0 3 [1 2 3] [4 -5 -9] [0 1 1]", "0 3 [5 -2 -5]")
        self.check("0 2 [1 0] (0<1 [2 0] [0 2])", "0 2 (0<1 [3 0] [1 2])")
        self.check("0 2 (0<1 [2 0] [0 2]) [1 0]", "0 2 (0<1 [3 0] [1 2])")
        self.assertEqual(as_one(parse_forest("0 2 [9 -9] [9 -9] [9 -9] [9 -9]")), ("leaf", (36, -36)))

    def test_the_first_tree_comes_first(self):
        self.check("0,ab 2 (1=a [1 0] [2 0]) (0<1 [0 1] [0 2])",
                   "0,ab 2 (1=a (0<1 [1 1] [1 2]) (0<1 [2 1] [2 2]))")
        self.check("0,ab 2 (0<1 [0 1] [0 2]) (1=a [1 0] [2 0])",
                   "0,ab 2 (0<1 (1=a [1 1] [2 1]) (1=a [1 2] [2 2]))")

    def test_tests_in_later_trees_are_left_out(self):
        self.check("0 2 (0<1 [1 0] [2 0]) (0<1 [0 1] [0 2])", "0 2 (0<1 [1 1] [2 2])")
        self.check("0 2 (0<1 [1 0] [2 0]) (0<2 [0 1] [0 2])", "0 2 (0<1 [1 1] (0<2 [2 1] [2 2]))")
        self.check("0 2 (0<2 [1 0] [2 0]) (0<1 [0 1] [0 2])", "0 2 (0<2 (0<1 [1 1] [1 2]) [2 2])")
        self.check("abc 2 (0=a [1 0] [2 0]) (0=ab [0 1] [0 2])", "abc 2 (0=a [1 1] (0=ab [2 1] [2 2]))")
        self.check("abc 2 (0=a [1 0] [2 0]) (0=bc [0 1] [0 2])", "abc 2 (0=a [1 2] [2 1])")
        self.check("0 2 (0<1/3 [1 0] [2 0]) (0<-1/4 [0 1] [0 2]) (0<1/2 [4 0] [6 0])",
                   "0 2 (0<1/3 (0<-1/4 [5 1] [5 2]) (0<1/2 [6 2] [8 2]))")

    def test_tests_in_the_first_tree_are_left_out(self):
        self.check("0 2 (0<1 (0<1 [1 0] [9 9]) [2 0])", "0 2 (0<1 [1 0] [2 0])")
        self.check("0 2 (0<1 [1 0] (0<1/2 [9 9] [2 0]))", "0 2 (0<1 [1 0] [2 0])")
        self.check("ab 2 (0=ab [1 0] [9 9])", "ab 2 [1 0]")
        self.check("abc 2 (0=a [1 0] (0=bc (0=a [9 9] [2 0]) [9 9]))", "abc 2 (0=a [1 0] [2 0])")

    def test_a_tree_stands_in_the_place_of_a_test(self):
        self.check("0 2 (0<3 (0<5 (0<1 [1 0] (0<2 [2 0] [3 0])) [9 9]) [4 0])",
                   "0 2 (0<3 (0<1 [1 0] (0<2 [2 0] [3 0])) [4 0])")

    def test_tests_without_effect_on_the_votes_stay(self):
        self.check("0 2 (0<1 [1 0] [1 0])", "0 2 (0<1 [1 0] [1 0])")
        self.check("0 2 (0<1 [1 0] [0 1]) (0<1 [0 1] [1 0])", "0 2 (0<1 [1 1] [1 1])")
        self.check("abcd 2 (0=bd [0 0] [0 0])", "abcd 2 (0=bd [0 0] [0 0])")

    def test_against_what_the_words_say(self):
        left_out = 0
        for forest in small_forests(250) + random_forests(60):
            if len(all_givens(forest)) < 300:
                with self.subTest(forest=forest):
                    found = as_one(forest)
                    self.assertEqual(found, plain_one(forest))
                    left_out += found != grafted(forest[2][0], forest[2][1:], (0,) * forest[1])
        self.assertGreater(left_out, 100)

    def test_the_same_votes_and_an_input_for_each_leaf(self):
        for forest in small_forests(150) + random_forests(40):
            with self.subTest(forest=forest):
                tree = as_one(forest)
                alone = forest[:2] + ((tree,),)
                for given in dense_givens(forest)[::5]:
                    self.assertEqual(plain_votes(alone, given), plain_votes(forest, given))
                reached = {way_to_leaf(tree, given) for given in all_givens(forest)}
                self.assertEqual({way for way, _ in all_leaves(tree)}, reached)
                told = {test for own in forest[2] for test in all_tests(own)}
                self.assertTrue(set(all_tests(tree)) <= told)

    def test_greatest_forest(self):
        forest = greatest_forest(3)
        cubes = (("0", "0", "0"), 2, tuple(cube(number) for number in range(4)))
        self.assertTrue(is_forest(forest) and is_forest(cubes))
        started = time.process_time()
        found = as_one(forest), as_one(cubes)
        twice = as_one((("0",), 2, (full(3),) * 4)), as_one((("0",), 2, (chain(7, True),) * 4))
        self.assertLess(time.process_time() - started, 5)
        self.assertEqual(found, (plain_one(forest), plain_one(cubes)))
        self.assertEqual(len(all_leaves(found[1])), 5 ** 3)
        self.assertEqual(twice, (as_one((("0",), 2, (full(3),))), as_one((("0",), 2, (chain(7, True),)))))


class Refused(unittest.TestCase):
    def refused(self, error, function, *values):
        with self.subTest(function=function.__name__, values=values), self.assertRaises(error):
            function(*values)

    def test_invalid_forest(self):
        wrong = wrong_values() + [one_tree(chain(8)), one_tree(("leaf", (0, 10))), list(F), (("0",), 2, ())]
        for value in wrong:
            self.refused(InvalidForest, as_one, value)
            self.refused(InvalidForest, joined, value, F)
            self.refused(InvalidForest, joined, F, value)
            self.refused(InvalidForest, joined, value, value)
            self.refused(InvalidForest, joined, value, one_tree(ZERO, ("ab",)))
            self.refused(InvalidForest, joined, F[:2] + ((ZERO,) * 4,), value)

    def test_forests_that_do_not_fit(self):
        kinds = [("0",), ("ab",), ("ac",), ("abc",), ("0", "0"), ("0", "ab"), ("ab", "0"), ("0", "0", "0")]
        for own, others in itertools.permutations(kinds, 2):
            self.refused(NoFit, joined, one_tree(ZERO, own), one_tree(ZERO, others))
        self.refused(NoFit, joined, one_tree(ZERO), one_tree(("leaf", (0, 0, 0)), answers=3))
        self.refused(NoFit, joined, one_tree(("leaf", (0, 0, 0)), answers=3), one_tree(ZERO))

    def test_no_fit_before_too_many(self):
        for many in (1, 3, 4):
            forest, other = (("0",), 2, (ZERO,) * 4), (("ab",), 2, (ZERO,) * many)
            self.refused(NoFit, joined, forest, other)
            self.refused(NoFit, joined, other, forest)
            self.refused(TooMany, joined, forest, (("0",), 2, (ZERO,) * many))
            self.refused(NoFit, joined, forest, (("0",), 3, (("leaf", (0, 0, 0)),) * many))
