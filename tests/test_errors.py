"""[19] The errors: their classes, their attributes, their messages."""

import inspect
import unittest

from checkdigits import errors
from checkdigits.errors import CheckError, InvalidText, NoWeights

NAMES = (
    "InvalidBase InvalidModulus InvalidRows InvalidWeights InvalidRemainder InvalidRule InvalidRules InvalidCode"
    " InvalidPartial InvalidPlace InvalidPlaces InvalidNumber InvalidKind InvalidReach InvalidDigit NotValid NotAlike"
    " NoFilling NoWeights Complete NothingToUndo InvalidText InvalidCommand"
).split()
WITH_ATTRIBUTE = ("NoWeights", "InvalidText")


class ClassesTest(unittest.TestCase):
    def test_base(self):
        self.assertEqual(CheckError.__bases__, (ValueError,))

    def test_each_is_a_direct_subclass(self):
        for name in NAMES:
            with self.subTest(name):
                self.assertEqual(getattr(errors, name).__bases__, (CheckError,))
                self.assertEqual(getattr(errors, name).__name__, name)

    def test_each_is_defined_in_this_module_and_no_other_one(self):
        classes = {name for name, value in vars(errors).items() if inspect.isclass(value)}
        self.assertEqual(classes, {"CheckError", *NAMES})
        for name in classes:
            self.assertEqual(getattr(errors, name).__module__, "checkdigits.errors")

    def test_none_stands_for_another(self):
        self.assertEqual(len({getattr(errors, name) for name in NAMES}), 23)


class MessagesTest(unittest.TestCase):
    def test_message(self):
        for name in ("CheckError", *NAMES):
            if name not in WITH_ATTRIBUTE:
                with self.subTest(name):
                    self.assertEqual(str(getattr(errors, name)("what is wrong")), "what is wrong")

    def test_raised_and_caught(self):
        for name in NAMES:
            with self.subTest(name):
                for caught in (getattr(errors, name), CheckError, ValueError):
                    with self.assertRaises(caught):
                        raise getattr(errors, name)("what is wrong")


class AttributesTest(unittest.TestCase):
    def test_most(self):
        for most in (0, 1, 29, 10**59):
            self.assertEqual(NoWeights(most).most, most)
            self.assertEqual(NoWeights(most=most).most, most)

    def test_most_is_needed(self):
        with self.assertRaises(TypeError):
            NoWeights()

    def test_index(self):
        for index in (0, 1, 30, 10**59):
            self.assertEqual(InvalidText(index).index, index)
            self.assertEqual(InvalidText(index=index).index, index)

    def test_index_may_be_none(self):
        self.assertIsNone(InvalidText().index)
        self.assertIsNone(InvalidText(None).index)
        self.assertIsNone(InvalidText(index=None).index)

    def test_attributes_have_messages(self):
        for error in (NoWeights(3), NoWeights(most=3), InvalidText(), InvalidText(3), InvalidText(index=3)):
            self.assertIsInstance(str(error), str)

    def test_attributes_are_there_when_caught(self):
        with self.assertRaises(CheckError) as caught:
            raise NoWeights(4)
        self.assertEqual(caught.exception.most, 4)
        with self.assertRaises(CheckError) as caught:
            raise InvalidText(5)
        self.assertEqual(caught.exception.index, 5)


if __name__ == "__main__":
    unittest.main()
