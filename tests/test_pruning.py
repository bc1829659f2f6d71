"""Section 8: leaves, trees and parts without effect."""

import time
import unittest

from plain import all_givens, all_leaves, changed, dense_givens, plain_answer, way_to_leaf
from samples import (
    F, ZERO, chain, full, greatest_forest, one_tree, random_forests, small_forests, wrong_values,
)
from votewoods.errors import InvalidForest, InvalidPart
from votewoods.pruning import idle_trees, matters, parts_that_matter, unreached
from votewoods.texts import parse_forest

OF_ONE = (unreached, idle_trees, parts_that_matter)


def plain_unreached(forest):
    reached = {(at, way_to_leaf(tree, given)) for given in all_givens(forest) for at, tree in enumerate(forest[2])}
    ways = [(at, way) for at, tree in enumerate(forest[2]) for way, _ in all_leaves(tree)]
    return tuple(sorted(set(ways) - reached))


def plain_idle(forest):
    kinds, answers, trees = forest
    idle = []
    for at in range(len(trees)):
        left = (kinds, answers, trees[:at] + trees[at + 1:])
        if left[2] and all(plain_answer(left, given) == plain_answer(forest, given) for given in all_givens(forest)):
            idle.append(at)
    return tuple(idle)


def plain_matters(forest, part):
    givens = all_givens(forest)
    values = sorted({given[part] for given in givens})
    return any(plain_answer(forest, changed(given, part, value)) != plain_answer(forest, given)
               for given in givens for value in values)


class Unreached(unittest.TestCase):
    def check(self, text, *pairs):
        with self.subTest(text=text):
            self.assertEqual(unreached(parse_forest(text)), pairs)

    def test_example(self):
        self.assertEqual(unreached(F), ())

    def test_trees_that_are_a_leaf(self):
        self.check("0 2 [0 0]")
        self.check("0,ab 3 [0 0 0] [1 1 1]")

    def test_the_same_place_twice(self):
        self.check("0 2 (0<1 (0<1 [0 0] [1 1]) [2 2])", (0, "01"))
        self.check("0 2 (0<1 [2 2] (0<1 [0 0] [1 1]))", (0, "10"))

    def test_places_beyond_those_on_the_way(self):
        self.check("0 2 (0<1 (0<2 [0 0] [1 1]) [2 2])", (0, "01"))
        self.check("0 2 (0<1 (0<1/2 [0 0] [1 1]) [2 2])")
        self.check("0 2 (0<1 [0 0] (0<3/4 [1 1] [2 2]))", (0, "10"))
        self.check("0 2 (0<1 [0 0] (0<5/4 [1 1] [2 2]))")
        self.check("0 2 (0<-1/3 (0<-1/4 [0 0] [1 1]) [2 2])", (0, "01"))

    def test_other_parts_do_not_count(self):
        self.check("0,0 2 (0<1 (1<2 [0 0] [1 1]) [2 2])")
        self.check("ab,ab 2 (0=a (1=b [0 0] [1 1]) [2 2])")
        self.check("0,0 2 (0<1 (1<1 (0<1 [0 0] [1 1]) (0<0 [2 2] [3 3])) [4 4])", (0, "001"))

    def test_letters(self):
        self.check("ab 2 (0=ab [0 0] [1 1])", (0, "1"))
        self.check("abc 2 (0=a (0=ab [0 0] [1 1]) [2 2])", (0, "01"))
        self.check("abc 2 (0=a [0 0] (0=a [1 1] [2 2]))", (0, "10"))
        self.check("abc 2 (0=a [0 0] (0=bc [1 1] [2 2]))", (0, "11"))
        self.check("abc 2 (0=ab (0=bc [0 0] [1 1]) [2 2])")

    def test_whole_trees_to_which_no_input_comes(self):
        self.check("0 2 (0<1 (0<2 [0 0] (0<0 [1 1] (0<3 [2 2] [3 3]))) [4 4])", (0, "010"), (0, "0110"), (0, "0111"))

    def test_several_trees(self):
        self.check("0 2 (0<1 (0<1 [0 0] [1 1]) [2 2]) [0 0] (0<1 [2 2] (0<1 [0 0] [1 1]))", (0, "01"), (2, "10"))
        self.check("0 2 (0<1 [1 1] [2 2]) (0<2 [1 1] [2 2])")

    def test_ascending(self):
        self.check("ab 2 (0=a (0=b [0 0] [0 0]) (0=a (0=a [0 0] [0 0]) [0 0]))", (0, "00"), (0, "100"), (0, "101"))

    def test_limits(self):
        self.assertEqual(unreached(one_tree(chain(7), ("0",))), ())
        row = tuple((0, "1" * deep + "0") for deep in range(1, 7))
        self.assertEqual(unreached(one_tree(chain(7, second_way=True), ("0",))), row)
        ways = ("010", "100", "101", "110")
        self.assertEqual(unreached((("0",), 2, (full(3),) * 4)), tuple((at, way) for at in range(4) for way in ways))

    def test_against_a_count(self):
        many = 0
        for forest in small_forests(200) + random_forests(40):
            with self.subTest(forest=forest):
                found = unreached(forest)
                self.assertEqual(found, plain_unreached(forest))
                for given in dense_givens(forest)[::11]:
                    for at, tree in enumerate(forest[2]):
                        self.assertNotIn((at, way_to_leaf(tree, given)), found)
                many += len(found) > 0
        self.assertGreater(many, 50)


class Idle(unittest.TestCase):
    def check(self, text, *numbers):
        with self.subTest(text=text):
            self.assertEqual(idle_trees(parse_forest(text)), numbers)

    def test_example(self):
        self.assertEqual(idle_trees(F), ())

    def test_one_tree_alone(self):
        self.check("0 2 [0 0]")
        self.check("0 2 (0<1 [0 0] [0 0])")
        self.check("ab 3 (0=a [0 0 0] [0 1 0])")

    def test_trees_that_change_nothing(self):
        self.check("0 2 [0 0] (0<1 [1 0] [0 1])", 0)
        self.check("0 2 (0<1 [1 0] [0 1]) [5 5]", 1)
        self.check("0 2 (0<1 [3 0] [0 3]) (0<7 [1 0] [0 1])", 1)
        self.check("0 2 (0<1 [3 0] [0 3]) (0<7 [4 0] [0 1])", 0)
        self.check("0 2 (0<1 [3 0] [0 3]) (0<7 [0 0] [5 0])")
        self.check("0 2 (0<1 [3 0] [0 3]) (0<7 [1 0] [2 0])", 1)

    def test_each_by_itself(self):
        self.check("0 2 (0<1 [1 0] [0 1]) (0<1 [1 0] [0 1])", 0, 1)
        self.check("0 2 (0<1 [1 0] [0 1]) (0<1 [1 0] [0 1]) (0<1 [0 1] [1 0])", 2)
        self.check("0 2 [0 1] [0 1] [0 1] [0 1]", 0, 1, 2, 3)
        self.check("0 2 [0 1] [0 0]", 1)
        self.check("0 2 [1 0] [0 0]", 0, 1)

    def test_of_several_greatest_sums_the_first(self):
        self.check("0 2 [0 1] [1 0]", 0)
        self.check("0 2 (0<1 [0 1] [1 0]) [1 0]", 0)
        self.check("0 2 (0<1 [1 0] [0 1]) [0 1]", 1)

    def test_against_a_count(self):
        found = set()
        for forest in small_forests(250):
            with self.subTest(forest=forest):
                self.assertEqual(idle_trees(forest), plain_idle(forest))
                found.add((len(forest[2]), idle_trees(forest)))
        self.assertTrue({(1, ()), (2, ()), (2, (0,)), (2, (1,)), (2, (0, 1)), (3, (0, 1, 2)), (3, (0, 2))} <= found)


class Parts(unittest.TestCase):
    def check(self, text, *numbers):
        forest = parse_forest(text)
        with self.subTest(text=text):
            self.assertEqual(parts_that_matter(forest), numbers)
            for part in range(len(forest[0])):
                self.assertIs(matters(forest, part), part in numbers)

    def test_example(self):
        self.assertEqual(parts_that_matter(F), (0, 1))
        self.assertIs(matters(F, 0), True)
        self.assertIs(matters(F, 1), True)

    def test_one_answer_alone(self):
        self.check("0 2 [0 0]")
        self.check("0,ab,0 2 [0 1] [1 0]")
        self.check("0,ab 2 (0<1 [2 0] [1 0]) (1=a [0 0] [1 0])")

    def test_parts_that_are_asked_for_but_do_not_matter(self):
        self.check("0,ab 2 (0<1 (1=a [2 0] [1 0]) (1=a [0 1] [0 2]))", 0)
        self.check("0,ab 2 (1=a (0<1 [2 0] [1 0]) (0<3 [0 1] [0 2]))", 1)
        self.check("0,ab,0 2 (1=ab (2<1 [1 0] [0 1]) (0<1 [1 0] [0 1]))", 2)
        self.check("0 2 (0<1 [1 0] [0 1]) (0<1 [0 1] [1 0])")

    def test_one_letter_alone_is_unlike(self):
        for letter in "wxyz":
            self.check(f"ab,wxyz 2 (1={letter} [0 1] [1 0])", 1)

    def test_one_box_alone_is_unlike(self):
        self.check("0,ab,0 2 (0<1 (1=a (2<0 [0 1] [1 0]) [1 0]) [1 0])", 0, 1, 2)

    def test_against_a_count(self):
        found = set()
        for forest in small_forests(250) + random_forests(20):
            if len(all_givens(forest)) < 200:
                with self.subTest(forest=forest):
                    numbers = tuple(part for part in range(len(forest[0])) if plain_matters(forest, part))
                    self.assertEqual(parts_that_matter(forest), numbers)
                    self.assertEqual([matters(forest, part) for part in range(len(forest[0]))],
                                     [part in numbers for part in range(len(forest[0]))])
                    found.add((len(forest[0]), numbers))
        self.assertTrue({(1, ()), (1, (0,)), (2, (1,)), (2, ()), (3, (0, 2)), (3, (1,)), (3, (0, 1, 2))} <= found)


class Greatest(unittest.TestCase):
    def test_greatest_forest(self):
        forest = greatest_forest(1)
        started = time.process_time()
        found = [function(forest) for function in OF_ONE] + [matters(forest, 2)]
        self.assertLess(time.process_time() - started, 10)
        self.assertEqual(found[:3], [plain_unreached(forest), plain_idle(forest), (0, 1, 2)])
        self.assertIs(found[3], True)


class Refused(unittest.TestCase):
    def refused(self, error, function, *values):
        with self.subTest(function=function.__name__, values=values), self.assertRaises(error):
            function(*values)

    def test_invalid_forest(self):
        wrong = wrong_values() + [one_tree(chain(8)), one_tree(("leaf", (0, 10))), list(F), (("0",), 2, ())]
        for value in wrong:
            for function in OF_ONE:
                self.refused(InvalidForest, function, value)
            for part in (0, 1, None, value, -1):
                self.refused(InvalidForest, matters, value, part)

    def test_invalid_part(self):
        wrong = [value for value in wrong_values() if type(value) is not int]
        wrong += [-1, -2, -3, 2, 3, 10 ** 30, -10 ** 30, 0.0, 1.0, "1", b"0", (0, 1), F]
        for value in wrong:
            self.refused(InvalidPart, matters, F, value)

    def test_bounds_of_parts(self):
        for parts in (1, 2, 3):
            for kind in ("0", "ab"):
                forest = one_tree(ZERO, (kind,) * parts)
                self.assertEqual([matters(forest, part) for part in range(parts)], [False] * parts)
                for part in (-1, -parts, parts, parts + 1, True, False):
                    self.refused(InvalidPart, matters, forest, part)
