"""Promise 20: the error classes."""

import unittest

from fardials import errors

PLAIN = ["InvalidShape", "WrongShape", "InvalidPlan", "NotBelow", "InvalidShare", "InvalidShort",
         "InvalidSystem", "OutOfStretch", "InvalidWay", "InvalidHalf", "InvalidWiring",
         "InvalidWorld"]
WITH_ATTRIBUTES = {
    "InvalidTable": ["row"], "InvalidRating": ["row"], "InvalidMixture": ["at"],
    "TellsAcross": ["leak"], "Endless": ["ray"], "InvalidAsked": ["at"], "InvalidBits": ["row"],
    "InvalidLog": ["hand", "at"], "InvalidText": ["line"],
}


class Errors(unittest.TestCase):
    def test_dial_error_is_a_value_error(self):
        self.assertEqual(errors.DialError.__bases__, (ValueError,))

    def test_each_error_is_derived_directly_from_dial_error(self):
        for name in [*PLAIN, *WITH_ATTRIBUTES]:
            with self.subTest(name):
                self.assertEqual(getattr(errors, name).__bases__, (errors.DialError,))

    def test_there_are_no_other_classes(self):
        found = [name for name, item in vars(errors).items() if isinstance(item, type)]
        self.assertEqual(sorted(found), sorted(["DialError", *PLAIN, *WITH_ATTRIBUTES]))

    def test_plain_errors_can_be_raised_with_and_without_words(self):
        for name in PLAIN:
            with self.subTest(name):
                self.assertEqual(vars(getattr(errors, name)()), {})
                self.assertEqual(str(getattr(errors, name)("words")), "words")

    def test_attributes_have_the_names_of_the_parameters(self):
        for name, attributes in WITH_ATTRIBUTES.items():
            values = list(range(5, 5 + len(attributes)))
            with self.subTest(name):
                wanted = dict(zip(attributes, values))
                self.assertEqual(vars(getattr(errors, name)(*values)), wanted)
                self.assertEqual(vars(getattr(errors, name)(**wanted)), wanted)
