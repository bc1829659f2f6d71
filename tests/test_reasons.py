"""Sections 1 and 10: the parts that force an answer, and answers that rise."""

import itertools
import random
import time
import unittest

from plain import all_givens, changed, dense_givens, number, plain_answer
from samples import F, ZERO, chain, greatest_forest, one_tree, random_forests, small_forests, wrong_values
from votewoods.errors import InvalidForest, InvalidInput, InvalidPart
from votewoods.pruning import parts_that_matter
from votewoods.reasons import broken_rise, is_rising, reasons
from votewoods.texts import parse_forest

BIG = 10 ** 12


def all_sets(parts):
    return [found for many in range(parts + 1) for found in itertools.combinations(range(parts), many)]


def plain_forces(forest, given, parts):
    """Whether the set forces the answer: by all inputs, those not in it being told inputs of all boxes."""
    rows = {tuple(given[at] if at in parts else own for at, own in enumerate(other)) for other in all_givens(forest)}
    return len({plain_answer(forest, row) for row in rows}) == 1


def plain_reasons(forest, given):
    forcing = [found for found in all_sets(len(given)) if plain_forces(forest, given, found)]
    return tuple(sorted(found for found in forcing if not any(set(other) < set(found) for other in forcing)))


def size(value):
    """By what the values of a part are compared."""
    return value if isinstance(value, str) else number(value)


def plain_rises(forest, part):
    """Whether the answers rise, by all pairs of values of the part and not by neighbours alone."""
    for given in all_givens(forest):
        own = sorted({other[part] for other in all_givens(forest)}, key=size)
        told = [plain_answer(forest, changed(given, part, value)) for value in own]
        if any(low > high for low, high in itertools.combinations(told, 2)):
            return False
    return True


def some_given(rng, forest):
    """An input at, between or far from the places."""
    given = []
    for at, kind in enumerate(forest[0]):
        told = rng.choice(dense_givens(forest[:2] + (forest[2][:1],)))[at]
        given.append(rng.choice([told, (BIG, 1), (-BIG, 1), (1, BIG)]) if kind == "0" else rng.choice(kind))
    return tuple(given)


class Examples(unittest.TestCase):
    def check(self, text, given, *sets):
        with self.subTest(text=text, given=given):
            self.assertEqual(reasons(parse_forest(text), given), sets)

    def test_example(self):
        self.assertEqual(reasons(F, ((3, 1), "b")), ((0,),))
        self.assertEqual(reasons(F, ((3, 1), "a")), ((0,), (1,)))
        self.assertEqual(reasons(F, ((0, 1), "a")), ((1,),))
        self.assertEqual(reasons(F, ((0, 1), "b")), ((0, 1),))

    def test_kinds_of_values(self):
        found = reasons(F, ((0, 1), "b"))
        self.assertEqual([type(found), type(found[0]), type(found[0][0])], [tuple, tuple, int])

    def test_one_answer_alone(self):
        self.check("0 2 [0 0]", ((7, 3),), ())
        self.check("abc 3 [0 0 1]", ("b",), ())
        self.check("0,ab,0 2 (0<1 [3 0] [2 0]) (1=a [1 0] [0 0])", ((0, 1), "a", (BIG, 1)), ())
        self.check("0 2 (0<1 [1 0] [0 1]) (0<1 [0 1] [1 0])", ((1, 1),), ())

    def test_one_part(self):
        self.check("0 2 (0<1 [1 0] [0 1])", ((0, 1),), (0,))
        self.check("0 2 (0<1 [1 0] [0 1])", ((1, 1),), (0,))
        self.check("abcd 2 (0=bd [1 0] [0 1])", ("c",), (0,))

    def test_at_a_place_and_just_below_it(self):
        text = "0,0 2 (0<1/2 [1 0] (1<3 [1 0] [0 1]))"
        self.check(text, ((1, 2), (3, 1)), (0, 1))
        self.check(text, ((499999999999, BIG - 1), (3, 1)), (0,))
        self.check(text, ((1, 2), (BIG - 1, 10 ** 6)), (0, 1))
        self.check(text, ((1, 2), (2, 1)), (1,))
        self.check(text, ((0, 1), (2, 1)), (0,), (1,))

    def test_sets_that_lie_crosswise(self):
        """The answer is that of the greater number of three."""
        text = "ab,ab,ab 2 (0=a [1 0] [0 1]) (1=a [1 0] [0 1]) (2=a [1 0] [0 1])"
        self.check(text, ("a", "a", "a"), (0, 1), (0, 2), (1, 2))
        self.check(text, ("a", "b", "a"), (0, 2))
        self.check(text, ("b", "b", "a"), (0, 1))

    def test_sets_of_unlike_sizes_ascend_as_tuples(self):
        text = "ab,ab,ab 2 (0=a [2 0] [0 1]) (1=a [1 0] [0 1]) (2=a [1 0] [0 1])"
        self.check(text, ("a", "a", "a"), (0,), (1, 2))
        # Two votes against two are for the first answer.
        self.check(text, ("b", "b", "b"), (0, 1), (0, 2))
        text = "ab,ab,ab 2 (0=a [1 0] [0 1]) (1=a [2 0] [0 1]) (2=a [1 0] [0 1])"
        self.check(text, ("a", "a", "a"), (0, 2), (1,))
        text = "ab,ab,ab 2 (1=a [2 0] [0 1]) (0=a [1 0] [0 0]) (2=a [1 0] [0 0])"
        self.check(text, ("a", "a", "a"), (0,), (1,), (2,))
        text = "ab,ab,ab 2 (0=a (1=a [1 0] (2=a [1 0] [0 1])) (2=a [1 0] [0 1]))"
        self.check(text, ("a", "a", "a"), (0, 1), (2,))
        self.check(text, ("a", "a", "b"), (0, 1))
        self.check(text, ("b", "b", "b"), (0, 2), (1, 2))

    def test_all_three_parts(self):
        text = "ab,0,ab 2 (0=a (1<0 (2=a [0 1] [1 0]) [1 0]) [1 0])"
        self.check(text, ("a", (-1, 1), "a"), (0, 1, 2))
        self.check(text, ("b", (0, 1), "b"), (0,), (1,), (2,))
        self.check(text, ("a", (0, 1), "b"), (1,), (2,))

    def test_letters_that_fall_into_one_class(self):
        text = "abcd,ab 2 (0=a (1=a [1 0] [0 1]) (0=c (1=a [1 0] [0 1]) [0 1]))"
        for letter, sets in (("a", ((0, 1),)), ("c", ((0, 1),)), ("b", ((0,),)), ("d", ((0,),))):
            self.check(text, (letter, "a"), *sets)

    def test_places_and_parts_that_are_not_needed(self):
        self.check("0,0 2 (0<1 (1<2 [2 0] [1 0]) (1<7 [0 1] [0 2]))", ((0, 1), (5, 1)), (0,))
        self.check("0,0 2 (1<2 (0<1 [2 0] [1 0]) (0<3 [0 1] [0 2]))", ((0, 1), (5, 1)), (1,))


class Counted(unittest.TestCase):
    def test_small_forests(self):
        found = set()
        for forest in small_forests(250):
            for given in all_givens(forest)[::5]:
                with self.subTest(forest=forest, given=given):
                    self.assertEqual(reasons(forest, given), plain_reasons(forest, given))
                    found.add(reasons(forest, given))
        self.assertTrue({((),), ((0,),), ((0,), (1,)), ((0, 1),), ((1,), (2,)), ((0, 1, 2),)} <= found, found)

    def test_forests_of_all_sizes(self):
        rng = random.Random(1)
        for forest in random_forests(60):
            if len(all_givens(forest)) < 200:
                for _ in range(3):
                    given = some_given(rng, forest)
                    with self.subTest(forest=forest, given=given):
                        self.assertEqual(reasons(forest, given), plain_reasons(forest, given))

    def test_by_the_words_of_guarantee_d(self):
        for forest in small_forests(60):
            for given in dense_givens(forest)[::17]:
                told = reasons(forest, given)
                for parts in all_sets(len(given)):
                    forces = any(set(reason) <= set(parts) for reason in told)
                    self.assertIs(plain_forces(forest, given, parts), forces)
                for reason in told:
                    self.assertFalse(any(set(other) < set(reason) for other in told))

    def test_parts_in_reasons_of_all_inputs_are_those_that_matter(self):
        for forest in small_forests(150):
            told = {part for given in all_givens(forest) for reason in reasons(forest, given) for part in reason}
            self.assertEqual(tuple(sorted(told)), parts_that_matter(forest))

    def test_a_reason_is_one_of_all_inputs_with_its_values(self):
        rng = random.Random(2)
        for forest in small_forests(120):
            givens = dense_givens(forest)
            for given in rng.sample(givens, min(len(givens), 6)):
                for reason in reasons(forest, given):
                    for _ in range(4):
                        other = rng.choice(givens)
                        for part in reason:
                            other = changed(other, part, given[part])
                        self.assertIn(reason, reasons(forest, other))

    def test_greatest_forest(self):
        forest = greatest_forest(1)
        started = time.process_time()
        givens = [((0, 1), (0, 1), (0, 1)), ((BIG, 1), (-BIG, 1), (1, BIG))]
        told = [reasons(forest, given) for given in givens]
        rising = [(is_rising(forest, part), broken_rise(forest, part)) for part in range(3)]
        self.assertLess(time.process_time() - started, 5)
        self.assertEqual(told, [plain_reasons(forest, given) for given in givens])
        for part, (rises, pair) in enumerate(rising):
            self.assertIs(rises, pair is None)
            self.assertIs(rises, plain_rises(forest, part))


class Rising(unittest.TestCase):
    def check(self, forest, part, rises):
        with self.subTest(forest=forest, part=part):
            self.assertIs(is_rising(forest, part), rises)
            pair = broken_rise(forest, part)
            if rises:
                self.assertIs(pair, None)
                return
            self.assertEqual([type(pair), len(pair)], [tuple, 2])
            low, high = pair
            self.assertEqual(changed(low, part, high[part]), high)
            if forest[0][part] == "0":
                self.assertLess(number(low[part]), number(high[part]))
            else:
                self.assertLess(low[part], high[part])
            self.assertGreater(plain_answer(forest, low), plain_answer(forest, high))
            for given in pair:
                for kind, own in zip(forest[0], given):
                    if kind == "0":
                        self.assertEqual((number(own).numerator, number(own).denominator), own)
                        self.assertTrue(abs(own[0]) <= BIG and own[1] <= BIG)
                    else:
                        self.assertTrue(len(own) == 1 and own in kind)

    def check_text(self, text, *rises):
        for part, each in enumerate(rises):
            self.check(parse_forest(text), part, each)

    def test_example(self):
        self.assertIs(is_rising(F, 0), True)
        self.assertIs(broken_rise(F, 0), None)
        self.check(F, 1, False)
        self.assertEqual(broken_rise(F, 1)[0][1], "a")

    def test_one_answer_alone(self):
        self.check_text("0 2 [0 0]", True)
        self.check_text("abc,0 3 [0 0 1] (1<0 [0 0 0] [0 0 7])", True, True)

    def test_one_test(self):
        self.check_text("0 2 (0<1 [1 0] [0 1])", True)
        self.check_text("0 2 (0<1 [0 1] [1 0])", False)
        self.check_text("ab 2 (0=a [1 0] [0 1])", True)
        self.check_text("ab 2 (0=b [1 0] [0 1])", False)

    def test_steps_of_three_answers(self):
        self.check_text("0 3 (0<1 [1 0 0] (0<2 [0 1 0] [0 0 1]))", True)
        self.check_text("0 3 (0<1 [1 0 0] (0<2 [0 0 1] [0 1 0]))", False)
        self.check_text("0 3 (0<1 [0 1 0] (0<2 [1 0 0] [0 0 1]))", False)
        self.check_text("0 3 (0<1 [0 1 0] [0 0 1])", True)
        self.check_text("0 3 (0<1 [0 0 1] [0 1 0])", False)

    def test_places_are_compared_as_numbers(self):
        self.check_text("0 2 (0<1/2 [1 0] (0<2/3 [1 0] (0<11 [0 1] [0 2])))", True)
        self.check_text("0 2 (0<-99 [1 0] (0<-99/4 [1 0] (0<-1/4 [1 0] (0<9 [0 1] [0 2]))))", True)
        self.check_text("0 2 (0<10 (0<9 [1 0] [0 1]) [1 0])", False)

    def test_a_fall_for_some_other_parts_alone(self):
        self.check_text("0,ab,0 2 (1=b (2<5 [1 0] (0<1 [0 1] [1 0])) [1 0])", False, True, True)
        self.check_text("0,ab,0 2 (1=a (2<5 (0<1 [0 1] [1 0]) [1 0]) [1 0])", False, False, False)

    def test_letters_by_themselves(self):
        self.check_text("abcd 2 (0=ab [1 0] [0 1])", True)
        self.check_text("abcd 2 (0=cd [1 0] [0 1])", False)
        self.check_text("abc 2 (0=b [0 1] [1 0])", False)
        self.check_text("abc 2 (0=b [1 0] [0 1])", False)
        self.check_text("wxyz 3 (0=w [1 0 0] (0=z [0 0 1] [0 1 0]))", True)

    def test_classes_with_letters_between_each_other(self):
        self.check_text("abcd 2 (0=ac [1 0] [0 1])", False)
        self.check_text("abcd 2 (0=ad [1 0] [0 1])", False)
        self.check_text("abcd 3 (0=ac [1 0 0] (0=b [0 1 0] [0 0 1]))", False)
        pair = broken_rise(parse_forest("abcd 2 (0=ad [1 0] [0 1])"), 0)
        self.assertIn(pair, [(("b",), ("d",)), (("c",), ("d",))])
        self.assertEqual(broken_rise(parse_forest("abcd 2 (0=ac [1 0] [0 1])"), 0), (("b",), ("c",)))

    def test_against_a_count(self):
        found = set()
        for forest in small_forests(250) + random_forests(40):
            if len(all_givens(forest)) < 150:
                for part, kind in enumerate(forest[0]):
                    rises = plain_rises(forest, part)
                    self.check(forest, part, rises)
                    found.add((min(len(kind), 2), rises, part))
        self.assertEqual(len(found), 12)

    def test_for_inputs_between_and_beyond_the_places(self):
        for forest in small_forests(60):
            for part in range(len(forest[0])):
                if is_rising(forest, part):
                    givens = dense_givens(forest)
                    for one, two in zip(givens[::3], givens[5::3]):
                        low, high = sorted([one, changed(one, part, two[part])], key=lambda given: size(given[part]))
                        self.assertLessEqual(plain_answer(forest, low), plain_answer(forest, high))


class Refused(unittest.TestCase):
    def refused(self, error, function, *values):
        with self.subTest(function=function.__name__, values=values), self.assertRaises(error):
            function(*values)

    def test_invalid_forest(self):
        wrong = wrong_values() + [one_tree(chain(8)), one_tree(("leaf", (0, 10))), list(F), (("0",), 2, ())]
        for value in wrong:
            for given in (((0, 1), "a"), None, value):
                self.refused(InvalidForest, reasons, value, given)
            for part in (0, 1, None, -1, value):
                self.refused(InvalidForest, is_rising, value, part)
                self.refused(InvalidForest, broken_rise, value, part)

    def test_invalid_input(self):
        wrong = wrong_values() + [((0, 1),), ((0, 1), "c"), ((2, 2), "a"), ("a", (0, 1)), [(0, 1), "a"], ((0, 1), "ab")]
        wrong += [((BIG + 1, 1), "a"), ((1, BIG + 1), "a"), ((True, 1), "a"), ((0.0, 1), "a"), ((0, 1), "a", "a")]
        for value in wrong:
            self.refused(InvalidInput, reasons, F, value)

    def test_invalid_part(self):
        wrong = [value for value in wrong_values() if type(value) is not int]
        wrong += [-1, -2, -3, 2, 3, 10 ** 30, -10 ** 30, 0.0, 1.0, "1", b"0", (0, 1), F]
        for value in wrong:
            self.refused(InvalidPart, is_rising, F, value)
            self.refused(InvalidPart, broken_rise, F, value)

    def test_bounds_of_parts(self):
        for parts in (1, 2, 3):
            for kind in ("0", "ab"):
                forest = one_tree(ZERO, (kind,) * parts)
                self.assertEqual([is_rising(forest, part) for part in range(parts)], [True] * parts)
                for part in (-1, -parts, parts, parts + 1, True, False):
                    self.refused(InvalidPart, is_rising, forest, part)
                    self.refused(InvalidPart, broken_rise, forest, part)
