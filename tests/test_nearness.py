"""Sections 1, 3 and 9: the nearest input with another answer."""

import random
import time
import unittest
from fractions import Fraction

from plain import TINY, all_givens, another_within, asked, number, plain_answer
from samples import F, chain, greatest_forest, one_tree, random_forests, small_forests, wrong_values
from votewoods.errors import InvalidFlag, InvalidForest, InvalidInput
from votewoods.nearness import nearest
from votewoods.texts import parse_forest

BIG = 10 ** 12


def some_values(rng, places):
    """Places, and values beside and far from them."""
    place = rng.choice(places + [Fraction(0)])
    by = rng.choice([Fraction(0), Fraction(0), Fraction(1, 7), Fraction(-2, 9), Fraction(1, 2), Fraction(-3),
                     Fraction(1, BIG), Fraction(-1, 10 ** 9), Fraction(100)])
    value = place + by
    return (value.numerator, value.denominator) if max(abs(value.numerator), value.denominator) <= BIG else (0, 1)


class Examples(unittest.TestCase):
    def check(self, text, given, met, free=None):
        forest = parse_forest(text)
        for flag in (False, True) if free is None else (free,):
            with self.subTest(text=text, given=given, free=flag):
                self.assertEqual(nearest(forest, given, flag), met)

    def test_examples(self):
        self.assertEqual(nearest(F, ((0, 1), "b"), False), ((1, 1), True))
        self.assertEqual(nearest(F, ((0, 1), "b"), True), ((0, 1), True))
        self.assertEqual(nearest(F, ((1, 1), "b"), False), ((0, 1), False))

    def test_kinds_of_values(self):
        found = nearest(F, ((0, 1), "b"), False)
        self.assertEqual([type(found), type(found[0]), type(found[0][0]), type(found[0][1])], [tuple, tuple, int, int])
        self.assertIs(found[1], True)
        self.assertIs(nearest(F, ((1, 1), "b"), False)[1], False)

    def test_no_other_answer_at_all(self):
        self.check("0 2 [0 0]", ((5, 3),), None)
        self.check("0,ab 2 (0<1 [3 0] [2 0]) (1=a [1 0] [0 0])", ((0, 1), "a"), None)
        self.check("abc 3 (0=a [0 0 1] [0 0 2])", ("b",), None)

    def test_no_other_answer_with_the_same_marks(self):
        text = "0,ab 2 (1=a [1 0] (0<3 [0 1] [1 0]))"
        self.check(text, ((0, 1), "a"), None, free=False)
        self.check(text, ((0, 1), "a"), ((0, 1), True), free=True)
        self.check(text, ((7, 2), "a"), ((1, 2), False), free=True)
        self.check(text, ((0, 1), "b"), ((0, 1), True), free=True)
        self.check(text, ((0, 1), "b"), ((3, 1), True), free=False)

    def test_marks_alone(self):
        self.check("abc,de 2 (0=a (1=d [0 1] [1 0]) [1 0])", ("a", "d"), ((0, 1), True), free=True)
        self.check("abc,de 2 (0=a (1=d [0 1] [1 0]) [1 0])", ("c", "e"), ((0, 1), True), free=True)
        self.check("abc,de 2 (0=a (1=d [0 1] [1 0]) [1 0])", ("a", "d"), None, free=False)
        self.check("abc,de 2 (0=abc [1 0] [0 1])", ("a", "d"), None)

    def test_letters_that_fall_into_one_class(self):
        text = "abcd,0 2 (0=bd (1<4 [1 0] [0 1]) [1 0])"
        self.check(text, ("b", (0, 1)), ((4, 1), True))
        self.check(text, ("d", (0, 1)), ((4, 1), True))
        self.check(text, ("a", (0, 1)), ((4, 1), True), free=True)
        self.check(text, ("c", (0, 1)), None, free=False)
        self.check(text, ("d", (4, 1)), ((0, 1), True), free=True)
        self.check(text, ("d", (4, 1)), ((0, 1), False), free=False)

    def test_from_below_the_distance_is_met(self):
        self.check("0 2 (0<1/2 [1 0] [0 1])", ((0, 1),), ((1, 2), True))
        self.check("0 2 (0<1/2 [1 0] [0 1])", ((-7, 3),), ((17, 6), True))
        self.check("0 2 (0<1/2 [1 0] [0 1])", ((-BIG, 1),), ((2 * BIG + 1, 2), True))

    def test_from_above_the_distance_is_not_met(self):
        self.check("0 2 (0<1/2 [1 0] [0 1])", ((1, 2),), ((0, 1), False))
        self.check("0 2 (0<1/2 [1 0] [0 1])", ((3, 2),), ((1, 1), False))
        self.check("0 2 (0<1/2 [1 0] [0 1])", ((BIG, 1),), ((2 * BIG - 1, 2), False))
        self.check("0 2 (0<1/2 [1 0] [0 1])", ((2, 3),), ((1, 6), False))

    def test_of_equal_distances_one_that_is_met(self):
        text = "0 2 (0<0 [1 0] (0<2 [0 1] [1 0]))"
        self.check(text, ((1, 1),), ((1, 1), True))
        self.check(text, ((1, 2),), ((1, 2), False))
        self.check(text, ((3, 2),), ((1, 2), True))
        self.check("0 2 (0<0 (0<-2 [1 0] [0 1]) [1 0])", ((-1, 1),), ((1, 1), True))

    def test_the_greatest_difference_of_the_parts_counts(self):
        text = "0,0 2 (0<3 [1 0] (1<2 [1 0] [0 1]))"
        self.check(text, ((0, 1), (0, 1)), ((3, 1), True))
        self.check(text, ((2, 1), (0, 1)), ((2, 1), True))
        self.check(text, ((5, 1), (0, 1)), ((2, 1), True))
        self.check(text, ((5, 1), (4, 1)), ((2, 1), False))

    def test_a_part_that_is_missed_decides_only_if_it_is_the_farthest(self):
        text = "0,0 2 (0<0 (1<0 [1 0] [0 1]) [1 0])"
        self.check(text, ((1, 1), (-2, 1)), ((2, 1), True))
        self.check(text, ((2, 1), (-1, 1)), ((2, 1), False))
        self.check(text, ((1, 1), (-1, 1)), ((1, 1), False))
        self.check(text, ((0, 1), (-1, 4)), ((1, 4), True))
        self.check(text, ((0, 1), (5, 1)), ((0, 1), False))

    def test_marks_do_not_count(self):
        self.check("0,ab 2 (1=a (0<1 [1 0] [0 1]) (0<2 [1 0] [0 1]))", ((0, 1), "b"), ((1, 1), True), free=True)
        self.check("0,ab 2 (1=a (0<1 [1 0] [0 1]) (0<2 [1 0] [0 1]))", ((0, 1), "b"), ((2, 1), True), free=False)

    def test_places_that_are_asked_for_but_not_needed(self):
        self.check("0 2 (0<1 [1 0] (0<2 [2 0] (0<3 [0 1] [0 2])))", ((0, 1),), ((2, 1), True))
        self.check("0 2 (0<1 [1 0] (0<2 [2 0] (0<3 [0 1] [0 2])))", ((4, 1),), ((2, 1), False))

    def test_one_test_in_each_part(self):
        text = "0,0,0 2 (0<1 (1<1 (2<1 [1 0] [0 1]) [0 1]) [0 1])"
        self.check(text, ((0, 1), (1, 2), (3, 4)), ((1, 4), True))
        self.check(text, ((3, 2), (5, 3), (7, 4)), ((3, 4), False))

    def test_great_bottoms(self):
        far = ((3 * BIG - 7, 4 * BIG - 4), True)
        self.check("0,0 2 (0<1/3 [1 0] (1<3/4 [1 0] [0 1]))", ((1, BIG), (1, BIG - 1)), far)
        self.check("0 2 (0<1 [1 0] [0 1])", ((BIG - 1, BIG),), ((1, BIG), True))
        self.check("0 2 (0<1 [1 0] [0 1])", ((BIG, BIG - 1),), ((1, BIG - 1), False))


class Counted(unittest.TestCase):
    """What point 9 says of the pair, word by word."""

    def check(self, forest, given):
        for free in (False, True):
            with self.subTest(forest=forest, given=given, free=free):
                found = nearest(forest, given, free)
                if found is None:
                    self.assertFalse(another_within(forest, given, free, Fraction(10 ** 15)))
                    continue
                distance, met = number(found[0]), found[1]
                self.assertEqual(found[0], (distance.numerator, distance.denominator))
                self.assertGreaterEqual(distance, 0)
                if distance > 0:
                    self.assertFalse(another_within(forest, given, free, distance - TINY))
                self.assertIs(met, another_within(forest, given, free, distance))
                self.assertTrue(another_within(forest, given, free, distance + TINY))

    def test_small_forests(self):
        rng = random.Random(3)
        for forest in small_forests(300):
            for _ in range(4):
                given = tuple(some_values(rng, asked(part, forest)) if kind == "0" else rng.choice(kind)
                              for part, kind in enumerate(forest[0]))
                self.check(forest, given)

    def test_told_inputs(self):
        for forest in small_forests(60):
            for given in all_givens(forest)[::5]:
                self.check(forest, given)

    def test_forests_of_all_sizes(self):
        rng = random.Random(4)
        for forest in random_forests(40):
            given = tuple(some_values(rng, asked(part, forest)) if kind == "0" else rng.choice(kind)
                          for part, kind in enumerate(forest[0]))
            self.check(forest, given)

    def test_greatest_forest(self):
        forest = greatest_forest(2)
        givens = [((1, 3), (-5, 7), (BIG - 1, BIG)), ((BIG, 1), (-BIG, 1), (1, BIG))]
        started = time.process_time()
        for given in givens:
            nearest(forest, given, True)
        self.assertLess(time.process_time() - started, 5)
        for given in givens:
            self.check(forest, given)

    def test_samples_have_what_they_are_for(self):
        found = set()
        for forest in small_forests(60):
            for given in all_givens(forest)[::5]:
                near = nearest(forest, given, False)
                found.add(near and (near[0] == (0, 1), near[1]))
                self.assertIn(plain_answer(forest, given), (0, 1, 2))
        self.assertEqual(found, {None, (True, False), (False, True), (False, False)})


class Refused(unittest.TestCase):
    def refused(self, error, *values):
        with self.subTest(values=values), self.assertRaises(error):
            nearest(*values)

    def test_invalid_forest(self):
        wrong = wrong_values() + [one_tree(chain(8)), one_tree(("leaf", (0, 10))), list(F), (("0",), 2, ())]
        for value in wrong:
            self.refused(InvalidForest, value, ((0, 1), "a"), True)
            self.refused(InvalidForest, value, value, value)
            self.refused(InvalidForest, value, None, 0)

    def test_invalid_input(self):
        wrong = wrong_values() + [((0, 1),), ((0, 1), "c"), ((2, 2), "a"), ("a", (0, 1)), [(0, 1), "a"], ((0, 1), "ab")]
        wrong += [((BIG + 1, 1), "a"), ((1, BIG + 1), "a"), ((True, 1), "a"), ((0.0, 1), "a"), ((0, 1), "a", "a")]
        for value in wrong:
            for free in (True, False, None, value):
                self.refused(InvalidInput, F, value, free)

    def test_invalid_flag(self):
        wrong = [value for value in wrong_values() if type(value) is not bool]
        for value in wrong + [0, 1, 2, 0.0, 1.0, "True", b"", (True,), [False]]:
            self.refused(InvalidFlag, F, ((0, 1), "a"), value)
            self.refused(InvalidFlag, one_tree(("leaf", (0, 0))), ((0, 1), "a"), value)
            self.refused(InvalidFlag, one_tree(("leaf", (0, 0)), ("ab",)), ("a",), value)
