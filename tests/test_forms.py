"""Sections 2.5, 2.6 and 6: forms, sameness, and where forests part."""

import itertools
import time
import unittest

from plain import all_givens, dense_givens, number, plain_answer, plain_form, plain_parting, plain_votes, told
from samples import (
    F, ZERO, among, below, chain, greatest_forest, one_tree, random_forests, small_forests, wrong_values,
)
from votewoods.errors import InvalidForest, NoFit
from votewoods.forests import is_forest
from votewoods.forms import answers_form, parting_answers, parting_votes, same_answers, same_votes, votes_form
from votewoods.running import answer, votes
from votewoods.texts import parse_forest

FORMS = ((votes_form, plain_votes), (answers_form, plain_answer))
OF_TWO = (same_votes, same_answers, parting_votes, parting_answers)
PARTINGS = ((same_votes, parting_votes, plain_votes), (same_answers, parting_answers, plain_answer))


def entry_at(kinds, form, given):
    """The entry of the box that has the input, found by going through the axes."""
    axes, entries = form
    at = 0
    for kind, axis, own in zip(kinds, axes, given):
        if kind == "0":
            at = at * (len(axis) + 1) + sum(number(place) <= number(own) for place in axis)
        else:
            at = at * len(axis) + [own in letters for letters in axis].index(True)
    return entries[at]


class Examples(unittest.TestCase):
    def test_example(self):
        self.assertEqual(answers_form(F), ((((1, 1),), ("a", "b")), (1, 0, 1, 1)))

    def test_votes_of_the_example(self):
        self.assertEqual(votes_form(F), ((((1, 1),), ("a", "b")), ((1, 2), (1, 0), (0, 3), (0, 1))))

    def check(self, text, for_votes, for_answers):
        forest = parse_forest(text)
        with self.subTest(text=text):
            self.assertEqual(votes_form(forest), for_votes)
            self.assertEqual(answers_form(forest), for_answers)

    def test_one_answer_alone(self):
        self.check("0 2 [0 0]", (((),), ((0, 0),)), (((),), (0,)))
        self.check("abc 3 [1 2 3]", ((("abc",),), ((1, 2, 3),)), ((("abc",),), (2,)))
        self.check("0,ab,0 2 [0 1] [1 0]", (((), ("ab",), ()), ((1, 1),)), (((), ("ab",), ()), (0,)))
        self.check("0 2 (0<1 [3 0] [2 0])", ((((1, 1),),), ((3, 0), (2, 0))), (((),), (0,)))

    def test_places_that_are_asked_for_but_not_needed(self):
        form = ((((2, 1),),), ((1, 0), (0, 1)))
        self.check("0 2 (0<2 (0<1 [1 0] [1 0]) (0<3 [0 1] [0 1]))", form, (form[0], (0, 1)))
        self.check("0 2 (0<2 (0<2 [1 0] [5 5]) (0<1 [5 5] [0 1]))", form, (form[0], (0, 1)))
        self.check("0 2 (0<5 [1 0] [0 1]) (0<5 [0 1] [1 0])", (((),), ((1, 1),)), (((),), (0,)))

    def test_a_place_needed_for_the_votes_alone(self):
        form = ((((0, 1), (1, 2)),), ((2, 0), (1, 0), (0, 1)))
        self.check("0 2 (0<1/2 (0<0 [2 0] [1 0]) [0 1])", form, ((((1, 2),),), (0, 1)))

    def test_a_place_needed_for_some_other_parts_alone(self):
        entries = ((1, 0), (1, 0), (1, 0), (0, 1))
        self.check("0,0 2 (0<1 [1 0] (1<2 [1 0] [0 1]))",
                   ((((1, 1),), ((2, 1),)), entries), ((((1, 1),), ((2, 1),)), (0, 0, 0, 1)))

    def test_places_are_sorted_as_numbers(self):
        text = "0 2 (0<1/2 (0<-2 [1 0] [0 1]) (0<1 (0<2/3 [1 0] [0 1]) (0<11 (0<5/4 [1 0] [0 1]) [1 0])))"
        places = ((-2, 1), (1, 2), (2, 3), (1, 1), (5, 4), (11, 1))
        self.assertEqual(answers_form(parse_forest(text)), ((places,), (0, 1, 0, 1, 0, 1, 0)))

    def test_letters_that_fall_into_one_class(self):
        self.check("abcd 2 (0=bd [1 0] [0 1])", ((("ac", "bd"),), ((0, 1), (1, 0))), ((("ac", "bd"),), (1, 0)))
        self.check("wxyz 3 (0=z [1 0 0] (0=x [0 1 0] [0 0 1]))",
                   ((("wy", "x", "z"),), ((0, 0, 1), (0, 1, 0), (1, 0, 0))), ((("wy", "x", "z"),), (2, 1, 0)))
        self.check("abc 2 (0=a [2 0] [1 0])", ((("a", "bc"),), ((2, 0), (1, 0))), ((("abc",),), (0,)))
        self.check("abc 2 (0=abc [1 0] [0 1])", ((("abc",),), ((1, 0),)), ((("abc",),), (0,)))

    def test_letters_unlike_for_some_other_parts_alone(self):
        axes = (("a", "b"), ("c", "d"))
        self.check("ab,cd 2 (0=a (1=c [1 0] [0 1]) [1 0])",
                   (axes, ((1, 0), (0, 1), (1, 0), (1, 0))), (axes, (0, 1, 0, 0)))

    def test_sequence_of_the_boxes(self):
        forest = parse_forest("0,ab,0 2 (0<0 [1 0] [0 0]) (1=a [2 0] [0 0]) (2<0 [4 0] [0 0])")
        axes = (((0, 1),), ("a", "b"), ((0, 1),))
        self.assertEqual(votes_form(forest), (axes, tuple((total, 0) for total in (7, 3, 5, 1, 6, 2, 4, 0))))

    def test_kinds_of_values(self):
        for form, _ in FORMS:
            axes, entries = form(F)
            self.assertEqual([type(x) for x in (form(F), axes, axes[0], axes[1], entries)], [tuple] * 5)
        self.assertEqual([type(entry) for entry in answers_form(F)[1]], [int] * 4)


class Counted(unittest.TestCase):
    """Forms against a plain count by the words of point 2.6."""

    def check(self, forest):
        for form, tell in FORMS:
            with self.subTest(forest=forest, form=form.__name__):
                self.assertEqual(form(forest), plain_form(forest, tell))

    def test_small_forests(self):
        for forest in small_forests(250):
            self.check(forest)

    def test_forests_of_all_sizes(self):
        for forest in random_forests(60):
            if len(all_givens(forest)) < 150:
                self.check(forest)

    def test_forms_tell_the_same_for_every_input(self):
        for forest in random_forests(40) + small_forests(60):
            for form, tell in FORMS:
                found = form(forest)
                for given in dense_givens(forest)[::7]:
                    self.assertEqual(entry_at(forest[0], found, given), tell(forest, given))

    def test_samples_have_what_they_are_for(self):
        forests = small_forests(250)
        self.assertTrue(any(answers_form(forest)[0] != votes_form(forest)[0] for forest in forests))
        self.assertTrue(any(len(set(answers_form(forest)[1])) == 1 for forest in forests))
        classes = [axis for forest in forests for kind, axis in zip(forest[0], votes_form(forest)[0]) if kind != "0"]
        self.assertTrue({("w", "x", "yz"), ("bd", "f"), ("ab",), ("wxyz",)} <= set(classes))

    def test_greatest_forest(self):
        forest = greatest_forest(1)
        self.assertTrue(is_forest(forest))
        started = time.process_time()
        found = [votes_form(forest), answers_form(forest)]
        self.assertLess(time.process_time() - started, 5)
        self.assertEqual([len(axis) for axis in found[0][0]], [10, 9, 9])
        self.assertEqual(len(found[0][1]), 1100)
        for form, tell in zip(found, (plain_votes, plain_answer)):
            self.assertEqual(form[1], tuple(tell(forest, given) for given in told(forest[0], form[0])))
            for given in all_givens(forest):
                self.assertEqual(entry_at(forest[0], form, given), tell(forest, given))


class Parting(unittest.TestCase):
    def check(self, one, two, for_votes, for_answers):
        first, second = parse_forest(one), parse_forest(two)
        for forest, other in ((first, second), (second, first)):
            with self.subTest(forest=one, other=two):
                self.assertEqual(parting_votes(forest, other), for_votes)
                self.assertEqual(parting_answers(forest, other), for_answers)
                self.assertIs(same_votes(forest, other), for_votes is None)
                self.assertIs(same_answers(forest, other), for_answers is None)

    def test_example(self):
        self.assertIs(parting_votes(F, F), None)
        self.assertIs(parting_answers(F, F), None)
        self.assertIs(same_votes(F, F), True)
        self.assertIs(same_answers(F, F), True)

    def test_forests_without_places(self):
        self.check("0 2 [0 1]", "0 2 [1 0]", ((0, 1),), ((0, 1),))
        self.check("0,abc 2 [0 1]", "0,abc 2 [0 1] [0 0]", None, None)
        self.check("0,bcd 2 [0 1]", "0,bcd 2 [0 2]", ((0, 1), "b"), None)

    def test_first_place_less_one(self):
        self.check("0 2 (0<1/2 [0 1] [1 0])", "0 2 [1 0]", ((-1, 2),), ((-1, 2),))
        self.check("0 2 (0<-99 [0 1] [1 0])", "0 2 [1 0]", ((-100, 1),), ((-100, 1),))
        self.check("0 2 (0<1 [0 1] [1 0])", "0 2 [1 0]", ((0, 1),), ((0, 1),))
        self.check("0 2 (0<-1/3 [0 1] [1 0])", "0 2 (0<99/4 [1 0] [0 1])", ((-4, 3),), ((-4, 3),))

    def test_the_place_at_which_the_stretch_begins(self):
        self.check("0 2 (0<1/2 [1 0] [0 1])", "0 2 [1 0]", ((1, 2),), ((1, 2),))
        self.check("0 2 (0<1 [1 0] [0 1])", "0 2 (0<3/2 [1 0] [0 1])", ((1, 1),), ((1, 1),))
        self.check("0 2 (0<0 [1 0] (0<7 [2 0] [0 1]))", "0 2 [1 0]", ((0, 1),), ((7, 1),))

    def test_places_that_are_not_needed_are_left_out(self):
        self.check("0 2 (0<5 [1 0] [1 0])", "0 2 [0 1]", ((0, 1),), ((0, 1),))
        self.check("0 2 (0<5 [1 0] [2 0])", "0 2 [0 1]", ((4, 1),), ((0, 1),))
        self.check("0 2 (0<1 [1 0] [1 0])", "0 2 (0<3 [0 1] [1 0])", ((2, 1),), ((2, 1),))

    def test_places_needed_by_the_one_or_the_other(self):
        self.check("0,0 2 (0<5 [1 0] [0 1])", "0,0 2 (1<3 [0 1] [1 0])", ((4, 1), (2, 1)), ((4, 1), (2, 1)))
        self.check("0,0 2 (0<5 [1 0] [0 1])", "0,0 2 (1<3 [1 0] [0 1])", ((4, 1), (3, 1)), ((4, 1), (3, 1)))

    def test_each_letter_is_a_class_of_its_own(self):
        self.check("abc 2 (0=c [1 0] [0 1])", "abc 2 [0 1]", ("c",), ("c",))
        self.check("abc,0 2 (0=bc [1 0] [0 1])", "abc,0 2 [0 1]", ("b", (0, 1)), ("b", (0, 1)))
        self.check("abcd 2 (0=cd [1 0] [0 1])", "abcd 2 (0=bd [1 0] [0 1])", ("b",), ("b",))

    def test_the_first_box_in_the_sequence(self):
        self.check("ab,cd 2 (0=a (1=d [0 1] [1 0]) [0 1])", "ab,cd 2 [1 0]", ("a", "d"), ("a", "d"))
        self.check("ab,cd 2 (0=b (1=d [0 1] [1 0]) [1 0])", "ab,cd 2 [1 0]", ("b", "d"), ("b", "d"))

    def test_same_forests_that_are_written_otherwise(self):
        self.check("0 2 (0<1 [1 0] [0 1]) (0<2 [3 0] [0 3])", "0 2 (0<2 [3 0] [0 3]) (0<1 [1 0] [0 1])", None, None)
        self.check("0 2 (0<1 (0<2 [1 0] [5 5]) [0 1])", "0 2 (0<1 [1 0] [0 1])", None, None)
        self.check("abc 2 (0=ab [1 0] [0 1])", "abc 2 (0=c [0 1] [1 0])", None, None)
        self.check("0 2 (0<1 [1 0] [0 1])", "0 2 (0<1 [2 1] [-8 -7])", ((0, 1),), None)


class CountedParting(unittest.TestCase):
    """The parting inputs, and sameness, against a plain count."""

    def check(self, forest, other):
        for same, parting, tell in PARTINGS:
            with self.subTest(forest=forest, other=other, parting=parting.__name__):
                found = parting(forest, other)
                self.assertEqual(found, plain_parting(forest, other, tell))
                alike = all(tell(forest, given) == tell(other, given) for given in dense_givens(forest, other))
                self.assertIs(same(forest, other), alike)
                self.assertIs(found is None, alike)
                form = votes_form if tell is plain_votes else answers_form
                self.assertIs(form(forest) == form(other), alike)
                if not alike:
                    self.assertNotEqual(tell(forest, found), tell(other, found))

    def variants(self, forest):
        kinds, answers, trees = forest
        def moved(tree):
            if tree[0] == "leaf":
                return ("leaf", tuple(vote + 1 for vote in tree[1]))
            return tree[:3] + (moved(tree[3]), moved(tree[4]))
        yield (kinds, answers, trees[::-1])
        yield (kinds, answers, trees + (("leaf", (0,) * answers),))
        yield (kinds, answers, (moved(trees[0]),) + trees[1:])
        test = below(0, (1, 2), trees[0], trees[0]) if kinds[0] == "0" else among(0, kinds[0][1], trees[0], trees[0])
        yield (kinds, answers, (test,) + trees[1:])

    def test_variants(self):
        for forest in small_forests(40):
            for other in self.variants(forest):
                self.check(forest, other)

    def test_pairs(self):
        forests = [forest for forest in small_forests(400) if len(all_givens(forest)) < 40]
        forests.sort(key=lambda forest: forest[:2])
        met = 0
        for forest, other in zip(forests, forests[1:]):
            if forest[:2] == other[:2]:
                self.check(forest, other)
                met += 1
        self.assertGreater(met, 200)

    def test_greatest_forests(self):
        forest, other = greatest_forest(1), greatest_forest(2)
        self.assertTrue(is_forest(forest) and is_forest(other))
        twin = forest[:2] + (forest[2][::-1],)
        last = forest[2][3]
        # These two part in the very last box alone.
        ends = [forest[:2] + (forest[2][:3] + (self.with_last_leaf(last, (9, 9, vote)),),) for vote in (8, 9)]
        started = time.process_time()
        found = [function(*two) for function in OF_TWO for two in ((forest, other), (forest, twin), ends)]
        self.assertLess(time.process_time() - started, 10)
        self.assertEqual(found[:3], [False, True, False])
        self.assertEqual(found[4], True)
        self.assertEqual(found[7], None)
        self.assertEqual(found[10], None)
        parted = [given for given in all_givens(*ends) if votes(ends[0], given) != votes(ends[1], given)]
        self.assertEqual(found[8], parted[0])
        first = next(given for given in all_givens(forest, other) if votes(forest, given) != votes(other, given))
        self.assertEqual(found[6], first)
        self.assertNotEqual(answer(forest, found[9]), answer(other, found[9]))

    def with_last_leaf(self, tree, own):
        return ("leaf", own) if tree[0] == "leaf" else tree[:4] + (self.with_last_leaf(tree[4], own),)


class Refused(unittest.TestCase):
    def refused(self, error, function, *values):
        with self.subTest(function=function.__name__, values=values), self.assertRaises(error):
            function(*values)

    def test_invalid_forest(self):
        wrong = wrong_values() + [one_tree(chain(8)), one_tree(("leaf", (0, 10))), list(F), (("0",), 2, ())]
        for value in wrong:
            for function, _ in FORMS:
                self.refused(InvalidForest, function, value)
            for function in OF_TWO:
                self.refused(InvalidForest, function, value, F)
                self.refused(InvalidForest, function, F, value)
                self.refused(InvalidForest, function, value, value)
                self.refused(InvalidForest, function, value, one_tree(ZERO, ("ab",)))

    def test_forests_that_do_not_fit(self):
        kinds = [("0",), ("ab",), ("ac",), ("abc",), ("0", "0"), ("0", "ab"), ("ab", "0"), ("0", "0", "0")]
        for own, others in itertools.permutations(kinds, 2):
            for function in OF_TWO:
                self.refused(NoFit, function, one_tree(ZERO, own), one_tree(ZERO, others))
        for function in OF_TWO:
            self.refused(NoFit, function, one_tree(ZERO), one_tree(("leaf", (0, 0, 0)), answers=3))
            self.refused(NoFit, function, one_tree(("leaf", (0, 0, 0)), answers=3), one_tree(ZERO))

    def test_unlike_numbers_of_trees_fit(self):
        for function in OF_TWO:
            function(F, one_tree(ZERO))
