"""Sections 2.1 to 2.4 and 4: what is a forest, and how many leaves it has."""

import unittest

from samples import F, PLACES, ZERO, among, below, chain, full, one_tree, random_forests, wrong_values
from votewoods.errors import InvalidForest
from votewoods.forests import count_leaves, is_forest


# Those of the wrong values that may well stand as kinds.
KINDS = (("0",), ("0",) * 3, ("abc",), ("abc",) * 3)


class Case(unittest.TestCase):
    def yes(self, *values):
        for value in values:
            with self.subTest(value=value):
                self.assertIs(is_forest(value), True)

    def no(self, *values):
        for value in values:
            with self.subTest(value=value):
                self.assertIs(is_forest(value), False)


class Shape(Case):
    def test_example(self):
        self.yes(F)

    def test_forests_of_all_sizes(self):
        self.yes(*random_forests(200))

    def test_wrong_values(self):
        self.no(*wrong_values())

    def test_wrong_values_in_each_place(self):
        for value in wrong_values():
            if value not in KINDS:
                self.no((value, 2, (ZERO,)))
            if value not in ("0", "abc"):
                self.no((("0", value, "0"), 2, (ZERO,)))
            self.no((("0",), value, (ZERO,)), (("0",), 2, value))
            if value != ZERO:
                self.no((("0",), 2, (value,)), (("0",), 2, (ZERO, value)))
                self.no(one_tree(below(first=value)), one_tree(below(second=value)))
            if not isinstance(value, int) or isinstance(value, bool):
                self.no(one_tree(below(part=value)), one_tree(among(part=value)))
                self.no(one_tree(below(place=(value, 1))), one_tree(below(place=(1, value))))
                self.no(one_tree(("leaf", (value, 0))), one_tree(("leaf", (0, value))))
            self.no(one_tree(below(place=value)), one_tree(among(part=1, marks=value)))
            self.no(one_tree(("leaf", value)), one_tree((value, (0, 0))))
            self.no(one_tree((value, 0, (1, 1), ZERO, ZERO)), one_tree((value, 1, "a", ZERO, ZERO)))

    def test_too_few_or_too_many_items(self):
        kinds, answers, trees = F
        self.no((kinds, answers), (kinds, answers, trees, trees), (kinds,), F + F)

    def test_lists_in_the_place_of_tuples(self):
        kinds, answers, trees = F
        self.no(list(F), (list(kinds), answers, trees), (kinds, answers, list(trees)))
        self.no(one_tree(["leaf", (0, 0)]), one_tree(("leaf", [0, 0])))
        self.no(one_tree(list(below())), one_tree(below(place=[0, 1])), one_tree(among(part=1, marks=["a"])))
        self.no(one_tree(below(first=list(ZERO))), one_tree(below(second=list(ZERO))))
        self.no(one_tree(below(first=below(first=list(ZERO)))))

    def test_tuples_in_the_place_of_texts(self):
        self.no(one_tree(ZERO, ((), "ab")), one_tree(ZERO, (("0",), "ab")), one_tree(ZERO, ("0", ("a", "b"))))
        self.no(one_tree(among(part=1, marks=("a",))), one_tree((("leaf",), (0, 0))))

    def test_bytes_in_the_place_of_texts(self):
        self.no(one_tree(ZERO, (b"0",)), one_tree(among(part=1, marks=b"a")), one_tree((b"leaf", (0, 0))))


class Kinds(Case):
    def test_numbers_of_parts(self):
        self.no(one_tree(ZERO, ()), one_tree(ZERO, ("0",) * 4), one_tree(ZERO, ("ab", "0", "cd", "0")))
        self.yes(one_tree(ZERO, ("0",)), one_tree(ZERO, ("0",) * 2), one_tree(ZERO, ("0",) * 3))
        self.yes(one_tree(ZERO, ("ab",)), one_tree(ZERO, ("ab", "ab")), one_tree(ZERO, ("ab", "0", "xyz")))

    def test_numbers_of_letters(self):
        self.no(*[one_tree(ZERO, (kind,)) for kind in ("", "a", "abcde", "abcdefghijklmnopqrstuvwxyz")])
        self.yes(*[one_tree(ZERO, (kind,)) for kind in ("ab", "abc", "abcd", "az", "wxyz", "aemz")])

    def test_letters_that_do_not_ascend(self):
        self.no(*[one_tree(ZERO, (kind,)) for kind in ("ba", "acb", "abdc", "dabc")])

    def test_letters_twice(self):
        self.no(*[one_tree(ZERO, (kind,)) for kind in ("aa", "aab", "abb", "abcc")])

    def test_other_letters(self):
        wrong = ("AB", "aB", "Ab", "a1", "0a", "00", "01", "1", " a", "a ", "a,", "`a", "a{", "a\n", "a\u00e4")
        self.no(*[one_tree(ZERO, (kind,)) for kind in wrong])
        self.no(*[one_tree(ZERO, (kind,)) for kind in ("\u00e0\u00e1", "\u0430\u0431", "\ud800\ud801", "\u0660")])

    def test_kinds_that_are_a_text(self):
        self.no(one_tree(ZERO, "0"), one_tree(ZERO, "ab"))


class Answers(Case):
    def test_numbers_of_answers(self):
        for answers in (-2, 0, 1, 4, 5, 10 ** 30):
            self.no((("0",), answers, (("leaf", (0,) * min(abs(answers), 9)),)))
        for answers in (2, 3):
            self.yes((("0",), answers, (("leaf", (0,) * answers),)))

    def test_answers_that_are_no_integers(self):
        self.no((("0",), 2.0, (ZERO,)), (("0",), "2", (ZERO,)), (("0",), True, (("leaf", (0,)),)))

    def test_votes_for_another_number_of_answers(self):
        self.no((("0",), 2, (("leaf", (0, 0, 0)),)), (("0",), 3, (ZERO,)), (("0",), 2, (("leaf", (0,)),)))
        self.no((("0",), 2, (("leaf", ()),)), (("0",), 3, (("leaf", (0, 0, 0, 0)),)))
        self.no((("0",), 2, (ZERO, ("leaf", (0, 0, 0)))))

    def test_bounds_of_votes(self):
        for vote in (-9, -8, 0, 8, 9):
            self.yes(one_tree(("leaf", (vote, 0))), one_tree(("leaf", (0, vote))))
            self.yes((("0",), 3, (("leaf", (0, 0, vote)),)))
        for vote in (-10, 10, -11, 99, 10 ** 20, -10 ** 5000, 10 ** 5000):
            self.no(one_tree(("leaf", (vote, 0))), one_tree(("leaf", (0, vote))))
            self.no((("0",), 3, (("leaf", (0, 0, vote)),)))

    def test_votes_that_are_no_integers(self):
        for vote in (True, False, 1.0, "1", None, (1,), (1, 1)):
            self.no(one_tree(("leaf", (vote, 0))), one_tree(("leaf", (0, vote))))


class Trees(Case):
    def test_numbers_of_trees(self):
        self.no((("0",), 2, ()), (("0",), 2, (ZERO,) * 5), (("0",), 2, (ZERO,) * 100))
        self.yes(*[(("0",), 2, (ZERO,) * many) for many in (1, 2, 3, 4)])

    def test_a_tree_in_the_place_of_trees(self):
        self.no((("0",), 2, ZERO), (("0",), 2, below()))

    def test_each_tree_counts(self):
        for at in range(4):
            trees = [ZERO] * 4
            trees[at] = ("leaf", (0, 10))
            self.no((("0",), 2, tuple(trees)))

    def test_numbers_of_leaves(self):
        self.yes(one_tree(full(3)), *[one_tree(chain(tests)) for tests in range(8)])
        self.no(one_tree(below(first=full(3))), one_tree(below(second=full(3))), one_tree(full(4)))
        self.no(one_tree(below(0, (5, 1), full(3), full(1))), one_tree(full(7)), one_tree(full(8)))

    def test_leaves_count_for_each_tree(self):
        self.yes((("0",), 2, (full(3),) * 4), (("0",), 2, (chain(7),) * 4))
        self.no((("0",), 2, (full(3), ZERO, chain(8))))

    def test_numbers_of_tests_on_a_way(self):
        self.yes(one_tree(chain(7)), one_tree(chain(7, second_way=True)))
        for tests in (8, 9, 20, 30):
            self.no(one_tree(chain(tests)), one_tree(chain(tests, second_way=True)))

    def test_trees_of_thousands_of_tests(self):
        for tree in (chain(5000), chain(5000, second_way=True)):
            self.assertTrue(is_forest(one_tree(tree)) is False)

    def test_numbers_of_items_of_a_tree(self):
        self.no(one_tree(()), one_tree(("leaf",)), one_tree(("leaf", (0, 0), ZERO)), one_tree(("below",)))
        self.no(one_tree(below()[:4]), one_tree(below() + (ZERO,)), one_tree(below()[:3]))
        self.no(one_tree(among(1)[:4]), one_tree(among(1) + (ZERO,)))

    def test_words_of_trees(self):
        for word in ("Leaf", "leaf ", "", "above", None, 0):
            self.no(one_tree((word, (0, 0))))
        for word in ("Below", "above", "leaf", "", None, 0):
            self.no(one_tree((word, 0, (0, 1), ZERO, ZERO)), one_tree((word, 1, "a", ZERO, ZERO)))

    def test_tests_of_the_wrong_kind(self):
        self.yes(one_tree(below(0)), one_tree(among(1)))
        self.no(one_tree(below(1)), one_tree(among(0)), one_tree(among(0, "0")), one_tree(below(1, "a")))
        self.no(one_tree(("below", 0, "a", ZERO, ZERO)), one_tree(("among", 1, (0, 1), ZERO, ZERO)))
        self.no(one_tree(("below", 1, "a", ZERO, ZERO)), one_tree(("among", 0, (0, 1), ZERO, ZERO)))

    def test_numbers_of_parts_that_do_not_exist(self):
        for parts in (1, 2, 3):
            self.yes(*[one_tree(below(part), ("0",) * parts) for part in range(parts)])
            self.yes(*[one_tree(among(part), ("ab",) * parts) for part in range(parts)])
            for part in (-1, -parts, parts, parts + 1, 10 ** 20):
                self.no(one_tree(below(part), ("0",) * parts), one_tree(among(part), ("ab",) * parts))

    def test_parts_that_are_no_integers(self):
        for part in (True, False, 0.0, 1.0, "0", None, (0,)):
            self.no(one_tree(below(part), ("0", "0")), one_tree(among(part), ("ab", "ab")))

    def test_faults_deep_in_a_tree(self):
        wrong = [("leaf", (0, 10)), below(place=(2, 4)), among(1, "c"), below(1), below(2), ("leaf", (0, True))]
        for tree in wrong:
            self.no(one_tree(below(first=below(second=tree))), one_tree(among(1, "b", ZERO, among(1, "a", tree))))

    def test_leaves_to_which_no_input_comes(self):
        self.yes(one_tree(below(0, (1, 1), below(0, (1, 1)))), one_tree(among(1, "ab")))
        self.yes(one_tree(among(1, "a", among(1, "b"), among(1, "a"))), one_tree(below(first=below(0, (5, 1)))))


class Places(Case):
    def test_all_places(self):
        self.yes(*[one_tree(below(place=place)) for place in PLACES])

    def test_bounds_of_tops(self):
        for bottom in (1, 2, 4):
            self.yes(one_tree(below(place=(-99, bottom))), one_tree(below(place=(99, bottom))))
            self.no(one_tree(below(place=(-101, bottom))), one_tree(below(place=(101, bottom))))
        for top in (-100, 100, -10 ** 5000, 10 ** 5000):
            self.no(one_tree(below(place=(top, 1))), one_tree(below(place=(top, 3))))

    def test_bounds_of_bottoms(self):
        for bottom in (1, 2, 3, 4):
            self.yes(one_tree(below(place=(1, bottom))), one_tree(below(place=(-1, bottom))))
        for bottom in (-4, -1, 0, 5, 6, 10 ** 5000):
            self.no(*[one_tree(below(place=(top, bottom))) for top in (-1, 0, 1)])

    def test_common_divisors(self):
        wrong = [(2, 2), (2, 4), (-2, 4), (3, 3), (4, 4), (99, 3), (-99, 3), (0, 2), (0, 3), (0, 4), (6, 3), (98, 2)]
        self.no(*[one_tree(below(place=place)) for place in wrong])

    def test_places_that_are_no_fractions(self):
        wrong = [(), (1,), (1, 1, 1), [1, 1], 1, 0, "1", None, 0.5, True, (True, 1), (1, True), (1.0, 1), ("1", 1)]
        wrong += [(1, 1.0), (1, "1"), (1, None), (False, 1), {1: 1}, ((1, 1), (1, 1)), "11"]
        self.no(*[one_tree(below(place=place)) for place in wrong])


class Marks(Case):
    def test_all_marks(self):
        for marks in ("a", "b", "c", "d", "ab", "ac", "bd", "abc", "bcd", "abcd"):
            self.yes(one_tree(among(0, marks), ("abcd",)))

    def test_wrong_marks(self):
        wrong = ["", "e", "ae", "ba", "dcba", "aa", "aab", "abcde", "A", "0", " a", "a ", 0, None, True, 1.5, ("a",)]
        self.no(*[one_tree(among(0, marks), ("abcd",)) for marks in wrong])

    def test_marks_of_another_part(self):
        self.no(one_tree(among(0, "c"), ("ab", "cd")), one_tree(among(1, "a"), ("ab", "cd")))
        self.no(one_tree(among(0, "b"), ("ac",)))


class CountLeaves(unittest.TestCase):
    def test_example(self):
        self.assertEqual(count_leaves(F), 4)

    def test_all_leaves_of_all_trees(self):
        self.assertEqual(count_leaves((("0",), 2, (ZERO,))), 1)
        self.assertEqual(count_leaves((("0",), 2, (ZERO,) * 4)), 4)
        self.assertEqual(count_leaves((("0",), 2, (full(3), chain(7), full(2), ZERO))), 21)
        self.assertEqual(count_leaves((("0",), 2, (chain(7, True),) * 4)), 32)

    def test_as_many_as_leaves_in_the_text(self):
        for forest in random_forests(100):
            self.assertEqual(count_leaves(forest), repr(forest).count("leaf"))

    def test_leaves_to_which_no_input_comes_count(self):
        self.assertEqual(count_leaves(one_tree(below(0, (1, 1), below(0, (1, 1))))), 3)

    def test_invalid_forest(self):
        wrong = wrong_values() + [(("0",), 2, ()), one_tree(chain(8)), one_tree(("leaf", (10, 0)))]
        for value in wrong:
            with self.subTest(value=value), self.assertRaises(InvalidForest):
                count_leaves(value)
