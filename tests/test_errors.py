"""Section 3 and the interface: the exceptions."""

import unittest

from votewoods import errors

NAMES = [
    "InvalidForest", "InvalidInput", "InvalidPart", "InvalidTree", "InvalidIndex", "InvalidBox",
    "InvalidFlag", "InvalidText", "NoFit", "TooMany", "NothingToUndo",
]


class Errors(unittest.TestCase):
    def test_base_is_a_value_error(self):
        self.assertEqual(errors.VoteError.__bases__, (ValueError,))

    def test_each_is_a_direct_subclass_of_the_base(self):
        for name in NAMES:
            with self.subTest(name=name):
                self.assertEqual(getattr(errors, name).__bases__, (errors.VoteError,))

    def test_none_is_a_subclass_of_another_one(self):
        classes = [getattr(errors, name) for name in NAMES]
        for one in classes:
            self.assertEqual([other for other in classes if issubclass(one, other)], [one])

    def test_there_are_no_others(self):
        found = [name for name, value in vars(errors).items() if isinstance(value, type)]
        self.assertEqual(sorted(found), sorted(NAMES + ["VoteError"]))

    def test_each_can_be_raised_and_caught_as_the_base(self):
        for name in NAMES:
            with self.subTest(name=name), self.assertRaises(errors.VoteError):
                raise getattr(errors, name)("why")
