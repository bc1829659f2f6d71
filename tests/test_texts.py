"""Section 4: texts of forests."""

import tracemalloc
import unittest

from samples import (
    F, F_TEXT, LONGEST_TEXT, PLACES, ZERO, among, below, chain, full, one_tree, random_forests, wrong_values,
)
from votewoods.errors import InvalidForest, InvalidText
from votewoods.forests import is_forest
from votewoods.texts import format_forest, parse_forest

PAIRS = [
    (F, F_TEXT),
    ((("0",), 2, (ZERO,)), "0 2 [0 0]"),
    ((("ab",), 3, (("leaf", (-9, 0, 9)),)), "ab 3 [-9 0 9]"),
    ((("0", "0", "0"), 2, (below(2, (-99, 1)),)), "0,0,0 2 (2<-99 [0 0] [0 0])"),
    ((("abc", "wxyz"), 2, (among(1, "wz"),)), "abc,wxyz 2 (1=wz [0 0] [0 0])"),
    ((("0",), 2, (below(0, (-1, 2)),)), "0 2 (0<-1/2 [0 0] [0 0])"),
    ((("0",), 2, (below(0, (3, 1)),)), "0 2 (0<3 [0 0] [0 0])"),
    ((("0",), 2, (below(0, (0, 1)),)), "0 2 (0<0 [0 0] [0 0])"),
    ((("0",), 2, (below(0, (99, 4)),)), "0 2 (0<99/4 [0 0] [0 0])"),
    (
        (("0", "ab"), 2, (below(0, (1, 3), among(1, "ab", ("leaf", (1, 2)), ("leaf", (3, 4))), ("leaf", (5, -6))),)),
        "0,ab 2 (0<1/3 (1=ab [1 2] [3 4]) [5 -6])",
    ),
    (
        (("0",), 2, (below(0, (1, 1), ("leaf", (1, 1)), below(0, (2, 1), ("leaf", (2, 2)), ("leaf", (3, 3)))),)),
        "0 2 (0<1 [1 1] (0<2 [2 2] [3 3]))",
    ),
    ((("0",), 2, (ZERO, ("leaf", (1, 0)), ("leaf", (2, 0)), ZERO)), "0 2 [0 0] [1 0] [2 0] [0 0]"),
]


def place_text_in_forest(place):
    return f"0,ab 2 (0<{place} [1 0] [0 1]) (1=a [0 2] [0 0])"


class Case(unittest.TestCase):
    def refused(self, *values):
        for value in values:
            with self.subTest(value=repr(value)[:200]), self.assertRaises(InvalidText):
                parse_forest(value)


class Both(Case):
    def test_texts_of_forests(self):
        for forest, text in PAIRS:
            with self.subTest(text=text):
                self.assertEqual(format_forest(forest), text)
                self.assertEqual(parse_forest(text), forest)

    def test_forest_to_text_and_back(self):
        for forest in random_forests(300):
            text = format_forest(forest)
            self.assertEqual(parse_forest(text), forest)
            self.assertEqual(format_forest(parse_forest(text)), text)

    def test_all_places(self):
        for top, bottom in PLACES:
            place = str(top) if bottom == 1 else f"{top}/{bottom}"
            text = place_text_in_forest(place)
            forest = parse_forest(text)
            self.assertEqual(forest[2][0][2], (top, bottom))
            self.assertEqual(format_forest(forest), text)

    def test_all_votes(self):
        for vote in range(-9, 10):
            forest = (("0",), 2, (("leaf", (vote, -vote)),))
            self.assertEqual(format_forest(forest), f"0 2 [{vote} {-vote}]")
            self.assertEqual(parse_forest(f"0 2 [{vote} {-vote}]"), forest)

    def test_longest_text(self):
        forest = parse_forest(LONGEST_TEXT)
        self.assertTrue(is_forest(forest))
        self.assertEqual(format_forest(forest), LONGEST_TEXT)

    def test_deepest_trees(self):
        for tree in (chain(7), chain(7, second_way=True), full(3)):
            forest = (("0",), 2, (tree,) * 4)
            self.assertEqual(parse_forest(format_forest(forest)), forest)


class Format(unittest.TestCase):
    def test_invalid_forest(self):
        wrong = wrong_values() + [one_tree(chain(8)), one_tree(below(place=(2, 4))), F_TEXT, list(F)]
        for value in wrong:
            with self.subTest(value=value), self.assertRaises(InvalidForest):
                format_forest(value)


class Signs(Case):
    def refused_unless_another_forest(self, text):
        """A changed text is refused, or it is the text of the forest that it leads to."""
        try:
            forest = parse_forest(text)
        except InvalidText:
            return True
        self.assertTrue(is_forest(forest))
        self.assertEqual(format_forest(forest), text)
        return False

    def test_a_sign_left_out(self):
        kept = []
        for at in range(len(F_TEXT)):
            text = F_TEXT[:at] + F_TEXT[at + 1:]
            if not self.refused_unless_another_forest(text):
                kept.append(text)
        self.assertEqual(kept, [])

    def test_a_sign_doubled(self):
        for at in range(len(F_TEXT)):
            if F_TEXT[at] != "1" or F_TEXT[at - 1] != "<":
                self.refused(F_TEXT[:at] + F_TEXT[at] + F_TEXT[at:])
        self.assertEqual(parse_forest(F_TEXT.replace("<1", "<11"))[2][0][2], (11, 1))

    def test_a_sign_put_in_or_changed(self):
        signs = " ()[]<=,/-+_.0123459abcz\n\t\u00e4\u0660\u00b2\u3000\x00\ud800"
        texts = [F_TEXT, "0 3 (0<-1/2 [1 -2 3] [-4 5 -6])", "abcd 2 (0=bd [0 0] (0=a [1 1] [2 2]))"]
        for text in texts:
            refused = 0
            for at in range(len(text) + 1):
                for sign in signs:
                    refused += self.refused_unless_another_forest(text[:at] + sign + text[at:])
                    refused += self.refused_unless_another_forest(text[:at] + sign + text[at + 1:])
            self.assertGreater(refused, len(text) * len(signs))

    def test_all_beginnings_and_ends(self):
        for _, text in PAIRS[:2]:
            for at in range(1, len(text)):
                self.refused(text[at:])
                if not text[:at].endswith(("]", "])")):
                    self.refused(text[:at])

    def test_double_spaces(self):
        self.refused(*[F_TEXT[:at] + " " + F_TEXT[at:] for at in range(len(F_TEXT)) if F_TEXT[at] == " "])

    def test_spaces_beside_brackets(self):
        self.refused("0 2 [ 0 0]", "0 2 [0 0 ]", "0 2[0 0]", "0 2 [0 0][0 0]", "0 2 ( 0<1 [0 0] [0 0])")
        self.refused("0 2 (0<1 [0 0] [0 0] )", "0 2 (0<1[0 0] [0 0])", "0 2 (0<1 [0 0][0 0])")
        self.refused("0 2 (0 < 1 [0 0] [0 0])", "0 2 (0< 1 [0 0] [0 0])", "0 2 (0 <1 [0 0] [0 0])")

    def test_other_spaces(self):
        for space in ("\n", "\t", "\r", "\x0b", "\u00a0", "\u3000", ""):
            self.refused(F_TEXT.replace(" ", space), F_TEXT.replace(" ", space, 1), F_TEXT + space + "0")

    def test_signs_at_the_ends(self):
        for sign in (" ", "\n", "\t", "(", ")", "[", "]", ",", "0", "-", "+", "\x00", "\ufeff", "  ", " 0"):
            self.refused(sign + F_TEXT, F_TEXT + sign)

    def test_brackets(self):
        self.refused("0 2 (0 0)", "0 2 {0 0}", "0 2 [0<1 [0 0] [0 0]]", "0 2 0 0", "0 2 [[0 0]]", "0 2 ([0 0])")
        self.refused("0 2 ((0<1 [0 0] [0 0]))", "0 2 (0<1 [0 0] [0 0]", "0 2 [0 0", "0 2 0 0]", "0 2 []", "0 2 ()")
        self.refused("0 2 (0<1 [0 0])", "0 2 (0<1)", "0 2 (0<1 [0 0] [0 0] [0 0])", "0 2 (0<1 [0 0] [0 0]]")

    def test_parts_of_texts(self):
        self.refused("", " ", "0", "0 2", "0 2 ", "2 [0 0]", "0 [0 0]", " 2 [0 0]", "0  [0 0]", "[0 0]", "(", ")")
        self.refused(",0 2 [0 0]", "0, 2 [0 0]", "0,,0 2 [0 0]", "0;0 2 [0 0]", "0,0,0,0 2 [0 0]", "ba 2 [0 0]")
        self.refused("a 2 [0 0]", "abcde 2 [0 0]", "aa 2 [0 0]", "00 2 [0 0]", "AB 2 [0 0]", "1 2 [0 0]", ". 2 [0 0]")

    def test_signs_of_tests(self):
        for sign in (">", "<=", "==", ":", "", "<<", "=<", " "):
            self.refused(F_TEXT.replace("<", sign), F_TEXT.replace("=", sign))
        self.refused("0,ab 2 (1<1 [0 0] [0 0])", "0,ab 2 (0=a [0 0] [0 0])", "0,ab 2 (1= [0 0] [0 0])")
        self.refused("0,ab 2 (1=ba [0 0] [0 0])", "0,ab 2 (1=c [0 0] [0 0])", "0,ab 2 (1=aa [0 0] [0 0])")


class Numbers(Case):
    def test_votes(self):
        wrong = ["00", "-0", "+1", "+0", "1_0", "01", "-01", "--1", "10", "-10", "1.0", "1e0", "0x1", "1/1", "a"]
        wrong += ["-", "", "\u0661", "\u00b2", "\uff11", " 1", "1 ", "True", "None", "0_1", "1_", "_1", "\ud800"]
        for number in wrong:
            self.refused(f"0 2 [{number} 0]", f"0 2 [0 {number}]")

    def test_places(self):
        wrong = ["00", "-0", "+1", "1_0", "2/4", "1/0", "1/5", "100", "-100", "0/1", "3/1", "01", "0/2", "-0/1", "1/-2"]
        wrong += ["1/+2", "1/02", "01/2", "+1/2", "-+1", "1/", "/2", "/", "1//2", "1/2/2", "1.5", "-", "", "1/1", "-2/4"]
        wrong += ["100/3", "-101/4", "1/00", "0/0", "--1/2", "1 /2", "1/ 2", "\u0661", "\u00bd", "1/\u0662", "1_0/3"]
        self.refused(*[place_text_in_forest(place) for place in wrong])

    def test_answers(self):
        for number in ("0", "1", "4", "-2", "02", "+2", "2.0", "2/1", "", "x", "\u0662", "1_0", "20", "0_2"):
            self.refused(f"0 {number} [0 0]")
        self.refused("0 3 [0 0]", "0 2 [0 0 0]", "0 2 [0]")

    def test_parts(self):
        for number in ("00", "-0", "+0", "-1", "2", "01", "10", "", "a", "\u0660", "0_0"):
            self.refused(f"0,ab 2 ({number}<1 [0 0] [0 0])", f"0,ab 2 ({number}=a [0 0] [0 0])")

    def test_numbers_of_many_digits(self):
        for digits in (4, 19, 20, 600, 4299, 4300, 4301, 5000, 20000):
            for number in ("1" * digits, "0" * digits, "-" + "9" * digits, "0" * digits + "1", "1_" * digits + "1"):
                self.refused(f"0 2 [{number} 0]", f"0 {number} [0 0]", f"{number} 2 [0 0]")
                self.refused(place_text_in_forest(number), place_text_in_forest("1/" + number))
                self.refused(f"0,ab 2 ({number}<1 [0 0] [0 0])", f"0,ab 2 ({number}=a [0 0] [0 0])")


class Long(Case):
    def test_too_many_trees_leaves_and_tests(self):
        self.refused("0 2" + " [0 0]" * 5, "0 2" + " [0 0]" * 100, LONGEST_TEXT + " [0 0 0]")
        self.refused("0 2 " + "(0<1 " * 8 + "[0 0]" + " [0 0])" * 8)
        self.refused("0 2 " + "(0<1 [0 0] " * 8 + "[0 0]" + ")" * 8)

    def test_open_brackets(self):
        for many in (8, 9, 30, 100, 128, 160, 200, 300, 1000, 5000, 10 ** 6):
            self.refused("(" * many, "[" * many, "0 2 " + "(" * many, "0 2 " + "[" * many, "0 2 " + ")" * many)
            self.refused("0 2 " + "(0<1 " * many, "0 2 " + "(0<1 [0 0] " * many, "0 2 " + "[0 " * many)
            self.refused("0 2 " + "( " * many, "0 2 " + "[ " * many, "0 2 " + "(0<1 " * many + ")" * many)
            self.refused("0 2 " + "(0= " * many, "0 2 " + "(0=a " * many + "[0 0]" + " [0 0])" * many)

    def test_very_long_texts(self):
        many = 10 ** 6
        self.refused("0" * many, "a" * many, " " * many, "," * many, "0," * many, "0 2 [0 0]" + " " * many)
        self.refused(" " * many + F_TEXT, (F_TEXT + " ") * (many // 10), "0 2 [" + "0 " * many + "]")
        self.refused("0 2" + " [0 0]" * many, "0 2 [0 0]\n" * many, "\x00" * many, "\u00e4" * many)
        self.refused("0,ab 2 (1=" + "a" * many + " [0 0] [0 0])", "ab" * many + " 2 [0 0]")


    def test_very_long_texts_are_not_copied(self):
        texts = [" " * 10 ** 7, "0 2" + " [0 0]" * 10 ** 6, "(" * 10 ** 7, "0," * 10 ** 6]
        tracemalloc.start()
        for text in texts:
            self.assertRaises(InvalidText, parse_forest, text)
        peak = tracemalloc.get_traced_memory()[1]
        tracemalloc.stop()
        self.assertLess(peak, 10 ** 6)


class NoTexts(Case):
    def test_values_that_are_no_texts(self):
        self.refused(*[value for value in wrong_values() if not isinstance(value, str)])
        self.refused(F, [F_TEXT], (F_TEXT,), {F_TEXT: F_TEXT}, F_TEXT.encode(), bytearray(b"0 2 [0 0]"), 2)

    def test_texts_that_are_none_of_a_forest(self):
        self.refused("forest", repr(F), "None", "True", "0.5", "\n", "\ud800", "[]")
