"""Sections 1, 3 and 11: shares, the least gap, and the answers that are told."""

import itertools
import math
import random
import time
import unittest
from fractions import Fraction

from plain import all_givens, asked, dense_givens, number, pair, plain_answer, plain_votes
from samples import F, ZERO, chain, greatest_forest, one_tree, random_forests, small_forests, wrong_values
from votewoods.errors import InvalidBox, InvalidForest
from votewoods.running import gap
from votewoods.shares import answers_told, least_gap, shares
from votewoods.texts import parse_forest

WHOLE = (((0, 1), (2, 1)), None)


def plain_shares(forest, box):
    """The shares, summed over all cells between the places in the box, by Python's own fractions."""
    columns = []
    for part, (kind, ends) in enumerate(zip(forest[0], box)):
        if kind == "0":
            low, high = map(number, ends)
            cuts = [low] + [place for place in asked(part, forest) if low < place < high] + [high]
            columns.append([((a + b) / 2, (b - a) / (high - low)) for a, b in zip(cuts, cuts[1:])])
        else:
            columns.append([(letter, Fraction(1, len(kind))) for letter in kind])
    told = [Fraction(0)] * forest[1]
    for row in itertools.product(*columns):
        told[plain_answer(forest, tuple(own for own, _ in row))] += math.prod(weight for _, weight in row)
    return tuple(map(pair, told))


def plain_gap(sums):
    one, two = sorted(sums)[-2:]
    return two - one


def some_fraction(rng, near):
    """A fraction that a box may end with, often one of those beside a place."""
    while True:
        found = rng.choice([
            rng.choice(near + [Fraction(0)]),
            rng.choice(near + [Fraction(0)]) + Fraction(rng.randint(-9, 9), rng.randint(1, 9)),
            Fraction(rng.randint(-999, 999), rng.randint(1, 99)),
            Fraction(rng.choice([-999, 999]), rng.choice([1, 98])),
        ])
        if abs(found.numerator) <= 999 and found.denominator <= 99:
            return found


def some_box(rng, forest):
    box = []
    for part, kind in enumerate(forest[0]):
        ends = (0, 0)
        while kind == "0" and ends[0] == ends[1]:
            ends = sorted(some_fraction(rng, asked(part, forest)) for _ in range(2))
        box.append(tuple(map(pair, ends)) if kind == "0" else None)
    return tuple(box)


class Examples(unittest.TestCase):
    def check(self, text, box, *told):
        with self.subTest(text=text, box=box):
            self.assertEqual(shares(parse_forest(text), box), told)

    def test_example(self):
        self.assertEqual(shares(F, (((0, 1), (2, 1)), None)), ((1, 4), (3, 4)))

    def test_kinds_of_values(self):
        found = shares(F, WHOLE)
        self.assertEqual([type(found), type(found[0]), type(found[0][0]), type(found[0][1])], [tuple, tuple, int, int])

    def test_no_and_all_inputs(self):
        self.check("0 3 [0 1 0]", (((0, 1), (1, 99)),), (0, 1), (1, 1), (0, 1))
        self.check("ab,cd 2 [0 0]", (None, None), (1, 1), (0, 1))
        self.check("0 2 (0<1 [1 0] [0 1])", (((1, 1), (2, 1)),), (0, 1), (1, 1))
        self.check("0 2 (0<1 [1 0] [0 1])", (((0, 1), (1, 1)),), (1, 1), (0, 1))

    def test_one_place(self):
        self.check("0 2 (0<1 [1 0] [0 1])", (((0, 1), (3, 1)),), (1, 3), (2, 3))
        self.check("0 2 (0<1/2 [1 0] [0 1])", (((1, 3), (5, 3)),), (1, 8), (7, 8))
        self.check("0 2 (0<-1/4 [1 0] [0 1])", (((-1, 3), (-1, 5)),), (5, 8), (3, 8))
        self.check("0 2 (0<99/4 [1 0] [0 1])", (((-999, 1), (999, 1)),), (455, 888), (433, 888))

    def test_beyond_all_places(self):
        text = "0,ab 2 (0<1 (1=a [1 0] [0 1]) (0<2 [1 0] [0 1]))"
        self.check(text, (((-999, 1), (1, 2)), None), (1, 2), (1, 2))
        self.check(text, (((1, 1), (2, 1)), None), (1, 1), (0, 1))
        self.check(text, (((2, 1), (5, 2)), None), (0, 1), (1, 1))
        self.check(text, (((998, 1), (999, 1)), None), (0, 1), (1, 1))

    def test_stretches_of_unlike_lengths(self):
        text = "0 3 (0<1/2 [1 0 0] (0<2 [0 1 0] (0<7/3 [1 0 0] [0 0 1])))"
        self.check(text, (((0, 1), (3, 1)),), (5, 18), (1, 2), (2, 9))
        self.check(text, (((1, 1), (9, 4)),), (1, 5), (4, 5), (0, 1))

    def test_boxes_of_unlike_lengths(self):
        """Each part counts by itself, however long its ends are apart."""
        text = "0,0 2 (0<1 [1 0] (1<1 [1 0] [0 1]))"
        self.check(text, (((0, 1), (2, 1)), ((0, 1), (2, 1))), (3, 4), (1, 4))
        self.check(text, (((0, 1), (2, 1)), ((-998, 1), (2, 1))), (1999, 2000), (1, 2000))
        self.check(text, (((98, 99), (2, 1)), ((0, 1), (4, 3))), (301, 400), (99, 400))

    def test_marks_are_counted_alike(self):
        self.check("abc 2 (0=b [1 0] [0 1])", (None,), (1, 3), (2, 3))
        self.check("abcd 3 (0=b [1 0 0] (0=ad [0 1 0] [0 0 1]))", (None,), (1, 4), (1, 2), (1, 4))
        self.check("wxyz,ab 2 (0=wxy [1 0] (1=a [1 0] [0 1]))", (None, None), (7, 8), (1, 8))
        self.check("abc,wxyz 2 (0=ab (1=wx [1 0] [0 1]) [0 1])", (None, None), (1, 3), (2, 3))

    def test_letters_that_fall_into_one_class(self):
        self.check("abcd 2 (0=a [1 0] (0=c [1 0] (0=d [1 0] [0 1])))", (None,), (3, 4), (1, 4))
        self.check("0,abc 2 (1=b (0<1 [1 0] [0 1]) [1 0])", (((0, 1), (4, 1)), None), (3, 4), (1, 4))

    def test_three_parts(self):
        text = "0,abc,0 2 (0<1 [1 0] (1=b (2<1/2 [1 0] [0 1]) [1 0]))"
        self.check(text, (((0, 1), (4, 1)), None, ((0, 1), (1, 1))), (7, 8), (1, 8))
        self.check(text, (((1, 1), (2, 1)), None, ((1, 2), (1, 1))), (2, 3), (1, 3))


class Counted(unittest.TestCase):
    def check(self, forest, box):
        with self.subTest(forest=forest, box=box):
            found = shares(forest, box)
            self.assertEqual(found, plain_shares(forest, box))
            self.assertEqual(len(found), forest[1])
            self.assertEqual(sum(map(number, found)), 1)
            for top, bottom in found:
                self.assertEqual((math.gcd(top, bottom), bottom > 0, top >= 0), (1, True, True))

    def test_small_forests(self):
        rng = random.Random(5)
        for forest in small_forests(250):
            for _ in range(3):
                self.check(forest, some_box(rng, forest))

    def test_forests_of_all_sizes(self):
        rng = random.Random(6)
        for forest in random_forests(60):
            if len(all_givens(forest)) < 300:
                self.check(forest, some_box(rng, forest))

    def test_a_place_cuts_a_box_into_two(self):
        """The shares are the mean, by length, of those of the two halves."""
        rng = random.Random(7)
        cut = 0
        for forest in small_forests(200):
            box = some_box(rng, forest)
            for part, kind in enumerate(forest[0]):
                if kind == "0":
                    low, high = map(number, box[part])
                    for at in asked(part, forest) + [some_fraction(rng, [low, high])]:
                        if low < at < high:
                            self.check_halves(forest, box, part, at)
                            cut += 1
        self.assertGreater(cut, 100)

    def check_halves(self, forest, box, part, at):
        low, high = box[part]
        by = (number(at) - number(low)) / (number(high) - number(low))
        one = shares(forest, box[:part] + ((low, pair(at)),) + box[part + 1:])
        two = shares(forest, box[:part] + ((pair(at), high),) + box[part + 1:])
        mean = [pair(by * number(a) + (1 - by) * number(b)) for a, b in zip(one, two)]
        self.assertEqual(shares(forest, box), tuple(mean))

    def test_beyond_all_places_is_the_answer_of_its_inputs(self):
        for forest in small_forests(150):
            if set(forest[0]) == {"0"}:
                parts = len(forest[0])
                for ends in (((-999, 1), (-998, 1)), ((998, 1), (999, 1))):
                    own = plain_answer(forest, ends[:1] * parts)
                    told = tuple((int(at == own), 1) for at in range(forest[1]))
                    self.assertEqual(shares(forest, (ends,) * parts), told)

    def test_greatest_forest(self):
        forest = greatest_forest(4)
        boxes = [(((-999, 98), (999, 97)),) * 3, (((-999, 1), (999, 1)), ((-1, 99), (98, 97)), ((0, 1), (1, 1)))]
        started = time.process_time()
        for box in boxes:
            shares(forest, box)
        found = (least_gap(forest), answers_told(forest))
        self.assertLess(time.process_time() - started, 5)
        for box in boxes:
            self.check(forest, box)
        self.assertEqual(found[0], min(plain_gap(plain_votes(forest, given)) for given in all_givens(forest)))
        self.assertEqual(found[1], tuple(sorted({plain_answer(forest, given) for given in all_givens(forest)})))


class Gaps(unittest.TestCase):
    def check(self, text, amount):
        with self.subTest(text=text):
            self.assertEqual(least_gap(parse_forest(text)), amount)

    def test_example(self):
        self.assertEqual(least_gap(F), 1)
        self.assertIs(type(least_gap(F)), int)

    def test_one_leaf(self):
        self.check("0 2 [0 0]", 0)
        self.check("0 2 [-9 9]", 18)
        self.check("0 3 [1 5 3]", 2)
        self.check("0 3 [5 1 5]", 0)
        self.check("abc 2 [9 -9] [9 -9] [9 -9] [9 -9]", 72)

    def test_the_least_one(self):
        self.check("0 2 (0<1 [7 0] [0 3])", 3)
        self.check("0 2 (0<1 [7 0] (0<2 [0 1] [0 3]))", 1)
        self.check("abc 2 (0=b [2 0] [5 0])", 2)
        self.check("0,ab 2 (0<1 [3 0] [0 3]) (1=a [2 0] [0 2])", 1)

    def test_leaves_without_inputs_do_not_count(self):
        self.check("0 2 (0<1 (0<1 [7 0] [0 0]) [0 3])", 3)
        self.check("ab 2 (0=ab [4 0] [0 0])", 4)
        self.check("0 2 (0<1 [3 0] [0 3]) (0<1 [2 0] [0 2])", 5)

    def test_places_needed_for_the_votes_alone_count(self):
        self.check("0 2 (0<1 [1 0] (0<2 [9 0] [8 0]))", 1)
        self.check("0 2 (0<1 [9 0] (0<2 [2 0] [8 0]))", 2)

    def test_against_a_count(self):
        found = set()
        for forest in small_forests(250) + random_forests(60):
            with self.subTest(forest=forest):
                amount = min(plain_gap(plain_votes(forest, given)) for given in all_givens(forest))
                self.assertEqual(least_gap(forest), amount)
                found.add(amount)
                for given in dense_givens(forest)[::13]:
                    self.assertGreaterEqual(gap(forest, given), amount)
        self.assertTrue({0, 1, 2, 3} <= found)


class Told(unittest.TestCase):
    def check(self, text, *numbers):
        with self.subTest(text=text):
            self.assertEqual(answers_told(parse_forest(text)), numbers)

    def test_example(self):
        self.assertEqual(answers_told(F), (0, 1))
        self.assertEqual([type(answers_told(F)), type(answers_told(F)[0])], [tuple, int])

    def test_one_answer_alone(self):
        self.check("0 2 [0 0]", 0)
        self.check("0 3 [0 2 2]", 1)
        self.check("0 3 [0 2 1] [0 0 3]", 2)
        self.check("abc 2 (0=a [0 1] [0 3])", 1)

    def test_ascending(self):
        self.check("0 3 (0<1 [0 0 1] [1 0 0])", 0, 2)
        self.check("0 3 (0<1 [0 0 1] [0 1 0])", 1, 2)
        self.check("abc 3 (0=a [0 0 1] (0=b [0 1 0] [1 0 0]))", 0, 1, 2)

    def test_leaves_without_inputs_do_not_count(self):
        self.check("0 3 (0<1 (0<1 [1 0 0] [0 1 0]) [0 0 1])", 0, 2)
        self.check("ab 2 (0=ab [0 1] [1 0])", 1)

    def test_against_a_count(self):
        found = set()
        for forest in small_forests(250) + random_forests(60):
            with self.subTest(forest=forest):
                told = tuple(sorted({plain_answer(forest, given) for given in all_givens(forest)}))
                self.assertEqual(answers_told(forest), told)
                found.add(told)
        self.assertTrue({(0,), (1,), (0, 1), (0, 2), (1, 2), (0, 1, 2)} <= found)


class Refused(unittest.TestCase):
    def refused(self, error, function, *values):
        with self.subTest(function=function.__name__, values=values), self.assertRaises(error):
            function(*values)

    def test_invalid_forest(self):
        wrong = wrong_values() + [one_tree(chain(8)), one_tree(("leaf", (0, 10))), list(F), (("0",), 2, ())]
        for value in wrong:
            self.refused(InvalidForest, least_gap, value)
            self.refused(InvalidForest, answers_told, value)
            for box in (WHOLE, None, value):
                self.refused(InvalidForest, shares, value, box)

    def boxes(self, forest, *boxes):
        for box in boxes:
            self.refused(InvalidBox, shares, forest, box)

    def test_wrong_values(self):
        self.boxes(F, *wrong_values())
        for value in wrong_values():
            self.boxes(F, (value, None), (((0, 1), value), None), ((value, (2, 1)), None))
            if type(value) is not int:
                self.boxes(F, (((value, 1), (2, 1)), None), (((0, 1), (2, value)), None))
            if value is not None:
                self.boxes(F, (((0, 1), (2, 1)), value))

    def test_too_short_or_too_long(self):
        ends = ((0, 1), (2, 1))
        self.boxes(F, (), (ends,), (None,), (ends, None, None), (ends, None, ends), ends)
        self.boxes(one_tree(ZERO, ("0",)), (), ends, (ends, ends), (ends, None), ((0, 1),))
        self.boxes(one_tree(ZERO, ("ab",)), (), None, (None, None))
        self.boxes(one_tree(ZERO, ("0", "0", "0")), (ends,), (ends, ends), (ends,) * 4)

    def test_wrong_kinds_of_parts(self):
        ends = ((0, 1), (2, 1))
        self.boxes(F, (None, ends), (None, None), (ends, ends), (ends, "a"), (ends, "ab"), (ends, ()), (ends, False))

    def test_lists(self):
        ends = ((0, 1), (2, 1))
        self.boxes(F, [ends, None], (list(ends), None), (([0, 1], (2, 1)), None), (((0, 1), [2, 1]), None))

    def test_pairs(self):
        self.boxes(F, (((0, 1),), None), (((0, 1), (1, 1), (2, 1)), None), ((), None), (((0, 1), None), None))

    def test_the_first_end_is_less(self):
        pairs = [((0, 1), (0, 1)), ((2, 1), (0, 1)), ((1, 2), (1, 3)), ((-1, 3), (-1, 2)), ((5, 3), (5, 3))]
        self.boxes(F, *[(ends, None) for ends in pairs])
        for ends in pairs[1:-1]:
            self.assertEqual(shares(F, (ends[::-1], None)), plain_shares(F, (ends[::-1], None)))

    def test_bounds(self):
        allowed = [((-999, 1), (999, 1)), ((-999, 98), (999, 98)), ((1, 99), (98, 99)), ((0, 1), (1, 99))]
        for ends in allowed:
            self.assertEqual(shares(F, (ends, None)), plain_shares(F, (ends, None)))
        wrong = [((-1000, 1), (0, 1)), ((0, 1), (1000, 1)), ((0, 1), (1, 100)), ((-1, 100), (0, 1))]
        wrong += [((-1001, 99), (0, 1)), ((0, 1), (1001, 2)), ((-10 ** 400, 1), (0, 1)), ((0, 1), (1, 10 ** 400))]
        self.boxes(F, *[(ends, None) for ends in wrong])

    def test_fractions(self):
        wrong = [(2, 2), (2, 4), (0, 2), (0, -1), (1, 0), (0, 0), (1, -1), (True, 1), (1, True), (1.0, 1), (1, 1.0)]
        wrong += [("1", 1), (None, 1), (), (1,), (1, 1, 1), 1, 0.5, "1", "1/2", None, (1, None), (6, 3), (990, 99)]
        for fraction in wrong:
            self.boxes(F, ((fraction, (900, 1)), None), (((-900, 1), fraction), None))

    def test_each_part(self):
        ends, other = ((0, 1), (2, 1)), ((2, 1), (0, 1))
        forest = one_tree(ZERO, ("0", "0", "0"))
        self.assertEqual(shares(forest, (ends,) * 3), ((1, 1), (0, 1)))
        self.boxes(forest, (other, ends, ends), (ends, other, ends), (ends, ends, other))
