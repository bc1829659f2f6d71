"""Section 7: one tree with the fewest leaves or the least depth."""

import itertools
import time
import unittest

from plain import all_givens, all_leaves, all_tests, dense_givens, plain_answer, plain_axes, plain_least
from samples import F, ZERO, chain, lowest_terms, one_tree, small_forests, wrong_values
from votewoods.errors import InvalidForest, TooMany
from votewoods.forests import is_forest
from votewoods.single import fewest_leaves, flat_tree, least_depth, small_tree
from votewoods.texts import parse_forest

ALL = (fewest_leaves, least_depth, small_tree, flat_tree)
# A forest with four needed places, 0 to 3, in each part.
FOUR_IN_EACH = (
    "0,0,0 3 (2<1 (1<2 [-3 7 7] [2 0 0]) (1<1 (1<1 [-2 2 -6] (2<1 (2<1 [-4 -1 9] [-5 5 -2]) [6 5 1])) "
    "(2<3 [7 -7 8] [-7 -6 -4]))) (0<2 [-6 -8 5] (2<0 (0<0 [7 -7 2] (0<3 [7 -5 -8] [-9 5 -7])) "
    "(1<1 (2<2 [-9 -3 7] [0 -5 0]) (2<0 [1 -9 9] [-7 7 6])))) (0<3 (1<3 [1 -3 -4] [7 -8 6]) "
    "(2<3 (0<3 [-6 4 -7] [-3 6 -7]) (2<3 (0<1 [-3 -2 6] [9 3 -4]) (0<0 [4 -8 8] [4 9 -6])))) "
    "(0<1 (0<0 (1<3 [6 -9 3] [-5 -2 -3]) [-6 -3 6]) (2<2 (1<2 (2<3 [5 2 -1] [9 -7 -7]) [-2 -2 -1]) "
    "(1<0 [3 1 -7] [-4 -1 2])))"
)


def depth(tree):
    return max(len(way) for way, _ in all_leaves(tree))


def row_text(places, votes):
    """A tree with these places of part 0, one after another, and these votes between them."""
    text = f"[{votes[len(places)]}]"
    for place, own in reversed(list(zip(places, votes))):
        text = f"(0<{place} [{own}] {text})"
    return text


def turns(many, kinds="0"):
    """A forest with two answers that take turns at so many places."""
    return parse_forest(f"{kinds} 2 " + row_text(range(many), ["1 0", "0 1"] * 4))


class Case(unittest.TestCase):
    def check_tree(self, forest, tree):
        """The tree has the right form, and tells the forest's answers for all inputs."""
        kinds, answers, _ = forest
        for word, part, bound in all_tests(tree):
            if kinds[part] == "0":
                self.assertEqual(word, "below")
                self.assertTrue(lowest_terms(*bound) and bound[1] > 0)
            else:
                self.assertEqual(word, "among")
                self.assertTrue(bound)
                self.assertEqual(bound, "".join(letter for letter in kinds[part] if letter in bound))
        ones = [tuple(int(at == number) for at in range(answers)) for number in range(answers)]
        for _, votes in all_leaves(tree):
            self.assertIn(votes, ones)
        alone = (kinds, answers, (tree,))
        for given in dense_givens(forest):
            self.assertEqual(plain_answer(alone, given), plain_answer(forest, given))

    def check(self, forest, leaves, deep):
        with self.subTest(forest=forest):
            self.assertEqual(fewest_leaves(forest), leaves)
            self.assertEqual(least_depth(forest), deep)
            small, flat = small_tree(forest), flat_tree(forest)
            self.assertEqual(len(all_leaves(small)), leaves)
            self.assertEqual(depth(flat), deep)
            self.check_tree(forest, small)
            self.check_tree(forest, flat)

    def check_text(self, text, leaves, deep):
        self.check(parse_forest(text), leaves, deep)


class Examples(Case):
    def test_example(self):
        self.assertEqual(fewest_leaves(F), 3)
        self.assertEqual(least_depth(F), 2)
        self.check(F, 3, 2)

    def test_one_answer_alone(self):
        for text in ("0 2 [0 0]", "abc 3 [0 0 1]", "0,ab 2 (0<1 [3 0] [2 0]) (1=a [1 0] [0 0])", "0 2 [0 1] [1 0]"):
            self.check_text(text, 1, 0)
        self.assertEqual(small_tree(parse_forest("0 3 [0 2 1]")), ("leaf", (0, 1, 0)))
        self.assertEqual(flat_tree(parse_forest("0 3 [0 2 1]")), ("leaf", (0, 1, 0)))
        self.assertEqual(flat_tree(parse_forest("0 3 [0 2 2] [9 0 9]")), ("leaf", (0, 0, 1)))

    def test_one_test(self):
        self.check_text("0 2 (0<1/2 [5 -3] [0 1])", 2, 1)
        self.assertEqual(small_tree(parse_forest("0 2 (0<1/2 [5 -3] [0 1])")),
                         ("below", 0, (1, 2), ("leaf", (1, 0)), ("leaf", (0, 1))))
        self.check_text("abc 2 (0=b [1 0] [0 1])", 2, 1)

    def test_places_that_are_asked_for_but_not_needed(self):
        self.check_text("0 2 (0<5 (0<1 [1 0] [2 0]) (0<7 [0 1] [0 2])) (0<3 [1 0] [0 0])", 2, 1)
        self.check_text("0 2 (0<5 (0<9 [1 0] [0 1]) (0<2 [1 0] [0 1]))", 2, 1)

    def test_letters_that_fall_into_one_class(self):
        self.check_text("abcd 2 (0=a [1 0] (0=c [1 0] [0 1]))", 2, 1)
        self.check_text("abcd 3 (0=a [1 0 0] (0=c [0 1 0] [0 0 1]))", 3, 2)
        self.check_text("abcd 2 (0=d [1 0] (0=b [0 1] [1 0]))", 2, 1)

    def test_marks_of_several_classes_ascend(self):
        text = "abcd,0 3 (0=d [0 0 1] (1<0 [1 0 0] (1<1 [0 1 0] (0=b [0 1 0] [1 0 0]))))"
        self.assertEqual(plain_axes(parse_forest(text), plain_answer)[0], ("ac", "b", "d"))
        self.check_text(text, 5, 3)
        # Any tree with five leaves asks first whether the letter is d.
        self.assertIn(small_tree(parse_forest(text))[:3], [("among", 0, "abc"), ("among", 0, "d")])

    def test_answers_that_take_turns(self):
        for many, deep in enumerate([0, 1, 2, 2, 3]):
            self.check(turns(many), many + 1, deep)

    def test_two_parts_of_which_both_count(self):
        self.check_text("0,ab 2 (0<0 (1=a [1 0] [0 1]) (1=a [0 1] [1 0]))", 4, 2)
        halves = "(1<0 (2<0 [1 0] [0 1]) (2<0 [0 1] [1 0])) (1<0 (2<0 [0 1] [1 0]) (2<0 [1 0] [0 1]))"
        self.check_text(f"0,0,0 2 (0<0 {halves})", 8, 3)

    def test_no_tree_has_both_the_fewest_leaves_and_the_least_depth(self):
        forest = parse_forest("ab,0,wxyz 3 (1<2 (1<0 [-1 2 -2] (0=a [1 1 -2] [2 1 2])) [2 0 2]) "
                              "(2=z (0=ab [2 0 0] (2=wy [2 -1 -1] [0 -2 0])) [-1 0 -2])")
        self.check(forest, 5, 3)
        both = plain_least(forest, (1, 0), lambda one, two: (one[0] + two[0], 1 + max(one[1], two[1])))
        self.assertEqual(both, (5, 4))
        self.assertEqual(depth(small_tree(forest)), 4)
        self.assertGreater(len(all_leaves(flat_tree(forest))), 5)

    def test_trees_beyond_the_limits_of_forests(self):
        forest = parse_forest("0,0,0 2 " + " ".join(f"({part}<0 [0 2] ({part}<2 [2 0] [0 1]))" for part in range(3)))
        leaves = fewest_leaves(forest)
        self.assertGreater(leaves, 8)
        self.assertIs(is_forest(forest[:2] + ((small_tree(forest),),)), False)
        self.check(forest, leaves, plain_least(forest, 0, lambda one, two: 1 + max(one, two)))
        self.assertEqual(leaves, plain_least(forest, 1, lambda one, two: one + two))

    def test_kinds_of_values(self):
        self.assertEqual([type(function(F)) for function in ALL], [int, int, tuple, tuple])


class Counted(Case):
    def test_against_a_count_over_sets_of_inputs(self):
        counted, found = 0, set()
        for forest in small_forests(400):
            if len(all_givens(forest)) <= 48:
                leaves = plain_least(forest, 1, lambda one, two: one + two)
                deep = plain_least(forest, 0, lambda one, two: 1 + max(one, two))
                self.check(forest, leaves, deep)
                counted += 1
                found.add((leaves, deep))
        self.assertGreater(counted, 200)
        self.assertTrue({(1, 0), (2, 1), (3, 2), (4, 2), (4, 3), (5, 3)} <= found, found)

    def test_no_small_tree_at_all_has_fewer_leaves_or_less_depth(self):
        """All trees with up to three leaves, one by one."""
        for forest in small_forests(120):
            kinds, answers, _ = forest
            givens = all_givens(forest)
            if len(givens) > 20:
                continue
            told = tuple(plain_answer(forest, given) for given in givens)
            tests = self.all_splits(forest, givens)
            trees = [[(number,) * len(givens) for number in range(answers)]]
            two = [self.joined(test, one, other) for test in tests for one in trees[0] for other in trees[0]]
            trees.append(sorted(set(two)))
            three = [self.joined(test, *pair) for test in tests for one in trees[0] for other in trees[1]
                     for pair in ((one, other), (other, one))]
            trees.append(sorted(set(three)))
            least = [many + 1 for many, found in enumerate(trees) if told in found]
            self.assertEqual(min(fewest_leaves(forest), 4), (least + [4])[0], forest)
            self.assertEqual(min(least_depth(forest), 2), {1: 0, 2: 1}.get((least + [4])[0], 2), forest)

    def all_splits(self, forest, givens):
        tests = []
        for part, kind in enumerate(forest[0]):
            own = sorted({given[part] for given in givens}, key=lambda x: x[0] / x[1] if kind == "0" else x)
            if kind == "0":
                groups = [own[:at] for at in range(1, len(own))]
            else:
                groups = [marks for many in range(1, len(kind)) for marks in itertools.combinations(kind, many)]
            tests += [tuple(given[part] in group for given in givens) for group in groups]
        return tests

    def joined(self, test, one, other):
        return tuple(a if first else b for first, a, b in zip(test, one, other))


class Places(Case):
    def refused(self, forest):
        for function in ALL:
            with self.subTest(forest=forest, function=function.__name__), self.assertRaises(TooMany):
                function(forest)

    def test_exactly_four_and_exactly_five_needed_places(self):
        self.check(turns(4), 5, 3)
        self.refused(turns(5))
        self.refused(turns(7))

    def test_in_each_part(self):
        for part in range(3):
            for many in (4, 5):
                text = row_text(range(many), ["1 0", "0 1"] * 4).replace("(0<", f"({part}<")
                forest = parse_forest("0,0,0 2 " + text)
                if many == 4:
                    self.check(forest, 5, 3)
                else:
                    self.refused(forest)

    def test_four_needed_places_in_each_part(self):
        forest = parse_forest(FOUR_IN_EACH)
        self.assertEqual([len(axis) for axis in plain_axes(forest, plain_answer)], [4, 4, 4])
        self.check_quickly(forest)

    def test_four_classes_in_parts_of_letters(self):
        forest = parse_forest("abcd,abcd,0 3 (0=a [4 0 0] (0=b [3 0 0] (0=c [2 0 0] [1 0 0]))) "
                              "(1=a [0 4 0] (1=b [0 3 0] (1=c [0 2 0] [0 1 0]))) "
                              "(2<0 [0 0 4] (2<1 [0 0 3] (2<2 [0 0 2] (2<3 [0 1 1] [2 0 0]))))")
        self.assertEqual([len(axis) for axis in plain_axes(forest, plain_answer)], [4, 4, 4])
        self.check_quickly(forest)

    def check_quickly(self, forest):
        started = time.process_time()
        for function in ALL:
            function(forest)
        self.assertLess(time.process_time() - started, 10)
        leaves = plain_least(forest, 1, lambda one, two: one + two)
        deep = plain_least(forest, 0, lambda one, two: 1 + max(one, two))
        self.assertGreater(leaves, 8)
        self.check(forest, leaves, deep)

    def test_places_that_are_asked_for_but_not_needed_do_not_count(self):
        votes = ["1 0", "2 0", "0 1", "0 3", "1 0", "0 1", "3 1", "4 1"]
        self.check_text("0 2 " + row_text(range(7), votes), 5, 3)
        self.check_text("0 2 " + row_text(range(7), ["1 0"] * 8), 1, 0)

    def test_places_needed_for_the_votes_alone_do_not_count(self):
        self.check_text("0 2 " + row_text(range(7), [f"{vote} 0" for vote in range(8)]), 1, 0)

    def test_four_in_several_trees(self):
        tree = "(0<0 [0 8] (0<2 [8 0] [0 4])) (0<1 [0 0] (0<3 [0 9] [9 0]))"
        self.check_text("0 2 " + tree, 4, 2)
        self.refused(parse_forest("0 2 (0<0 [9 0] [0 9]) (0<1 [0 0] [5 0]) (0<2 [0 1] [8 0]) "
                                  "(0<3 [0 0] (0<4 [0 9] (0<5 [9 9] [0 9])))"))


class Refused(unittest.TestCase):
    def test_invalid_forest(self):
        wrong = wrong_values() + [one_tree(chain(8)), one_tree(("leaf", (0, 10))), list(F), (("0",), 2, ())]
        wrong += [ZERO, F[2][0], small_tree(F)]
        for value in wrong:
            for function in ALL:
                with self.subTest(function=function.__name__, value=value), self.assertRaises(InvalidForest):
                    function(value)
