"""[17] Texts: codes, partial codes and weighted rules, written and read."""

import unittest
from itertools import product

from checkdigits.errors import InvalidBase, InvalidCode, InvalidModulus, InvalidRemainder, InvalidText, InvalidWeights
from checkdigits.rules import Rule
from checkdigits.texts import format_code, format_weights, parse_code, parse_partial, parse_weights
from tests.samples import NO_INTEGERS, OTHER_VALUES, Comparing, RaisingCase, error_of

SIGNS = "0123456789abcdefghijklmnopqrstuvwxyz"
PARSERS = (parse_code, parse_partial)
NO_STRINGS = tuple(value for value in OTHER_VALUES if not isinstance(value, str)) + (Comparing(), ["1"], ("1",), b"1")
WRONG_BASES = (*NO_INTEGERS, 0, 1, 37, -2, -10, 10**59, -(10**59))
WRONG_MODULI = (*NO_INTEGERS, 0, 1, 201, -2, -11, 10**59, -(10**59))
# None of them is a digit of any base, though some are digits or letters elsewhere.
OTHER_SIGNS = (
    "A", "Z", "F", " ", "-", "+", ".", "_", "/", ":", "@", "[", "`", "{", "~", "!", "\"", "%", "\t", "\n", "\x00", "\x7f",
    "\u00b2", "\u00bd", "\u0661", "\u06f4", "\u0967", "\uff11", "\uff41", "\u00e9", "\u03b1", "\u0430", "\u2460",
    "\u4e09", "\u2170", "\u017f", "\u0131", "\U0001d7d8", "\U0001f600", "\u00a0", "\u200b", "\ud800",
)


class TextCase(RaisingCase):
    def refused(self, index, function, *values, **named):
        error = error_of(function, *values, **named)
        self.assertIs(type(error), InvalidText, (function, values, named))
        self.assertEqual(error.index, index, (function, values, named))
        self.assertIs(type(error.index), type(index))


class FormatCodeTest(RaisingCase):
    def test_all_digits(self):
        for digit, sign in enumerate(SIGNS):
            self.assertEqual(format_code((digit,)), sign)
            self.assertEqual(format_code((digit, 0, digit)), sign + "0" + sign)

    def test_length(self):
        self.assertEqual(format_code((0,)), "0")
        self.assertEqual(format_code(tuple(range(30))), SIGNS[:30])
        self.assertEqual(format_code(tuple(range(6, 36))), SIGNS[6:])
        self.assertEqual(format_code((35,) * 30), "z" * 30)

    def test_wrong_length(self):
        for code in ((), (0,) * 31, (0,) * 60):
            self.raises(InvalidCode, format_code, code)

    def test_no_codes(self):
        for value in (*OTHER_VALUES, Comparing(), [2, 11, 0], "2b0", range(3), {0: 2}, Rule.weighted(10, 11, (1,))):
            if value not in ((1, 2, 3, 4),) or isinstance(value, Comparing):
                self.raises(InvalidCode, format_code, value)

    def test_no_digits(self):
        for value in (*NO_INTEGERS, 36, 37, -1, -36, 10**59, -(10**59), Comparing(), "a", ((0,),)):
            for code in ((value,), (value, 0), (0, value), (0,) * 29 + (value,)):
                self.raises(InvalidCode, format_code, code)

    def test_partial_codes_have_no_text_here(self):
        self.raises(InvalidCode, format_code, (1, None, 1, None))

    def test_by_name_and_twice(self):
        self.assertEqual([format_code(code=(2, 11, 0)), format_code((2, 11, 0))], ["2b0", "2b0"])
        code = [2, 11, 0]
        self.raises(InvalidCode, format_code, code)
        self.assertEqual(code, [2, 11, 0])


class ParseCodeTest(TextCase):
    def test_all_digits_of_all_bases(self):
        for base, function in product(range(2, 37), PARSERS):
            for digit, sign in enumerate(SIGNS):
                if digit < base:
                    self.assertEqual(function(sign, base), (digit,))
                    self.assertEqual(function("0" + sign + "1", base), (0, digit, 1))
                else:
                    self.refused(0, function, sign, base)
                    self.refused(2, function, "01" + sign, base)

    def test_length(self):
        for function in PARSERS:
            self.assertEqual(function(SIGNS[:30], 36), tuple(range(30)))
            self.assertEqual(function(SIGNS[6:], 36), tuple(range(6, 36)))
            self.assertEqual(function("1" * 30, 2), (1,) * 30)
            self.refused(0, function, "", 10)
            for many in (31, 32, 60, 1000):
                self.refused(30, function, "1" * many, 10)

    def test_unknown_digits(self):
        self.assertEqual(parse_partial("?", 2), (None,))
        self.assertEqual(parse_partial("?" * 30, 36), (None,) * 30)
        self.assertEqual(parse_partial("z?0", 36), (35, None, 0))
        self.refused(30, parse_partial, "?" * 31, 10)
        self.refused(1, parse_partial, "?a?", 10)
        for text, index in (("?", 0), ("1?1?", 1), ("0" * 29 + "?", 29), ("?" * 31, 0)):
            self.refused(index, parse_code, text, 36)
            self.assertEqual(error_of(parse_partial, text[:30], 36), None)

    def test_other_signs(self):
        for function, sign in product(PARSERS, OTHER_SIGNS):
            for base in (2, 10, 36):
                self.refused(0, function, sign, base)
                self.refused(2, function, "01" + sign + "10", base)
                self.refused(3, function, "011" + sign, base)
                self.refused(1, function, "1" + sign + sign, base)

    def test_letters_count_as_written(self):
        for function in PARSERS:
            self.assertEqual(function("fab", 16), (15, 10, 11))
            self.refused(0, function, "FAB", 16)
            self.refused(2, function, "faB", 16)

    def test_first_sign_that_cannot_stand(self):
        for function in PARSERS:
            self.refused(29, function, "0" * 29 + "2", 2)
            self.refused(29, function, "0" * 29 + "2222", 2)
            self.refused(30, function, "0" * 30 + "2", 2)
            self.refused(30, function, "0" * 31 + "2", 2)
            self.refused(4, function, "0000" + " " + "0" * 40, 2)
            self.refused(1, function, "0 1 2", 2)
            self.refused(0, function, " 01", 2)
            self.refused(2, function, "01 ", 2)

    def test_wrong_bases(self):
        for function, base in product(PARSERS, WRONG_BASES):
            for text in ("1", "", "1" * 31, "A", "\u0661", "?"):
                self.raises(InvalidBase, function, text, base)

    def test_no_strings(self):
        for function, value in product(PARSERS, NO_STRINGS):
            for base in (10, 36, 1, None):
                self.refused(None, function, value, base)
                self.refused(None, function, base=base, text=value)

    def test_types(self):
        for function in PARSERS:
            self.assertIs(function("12", 10).__class__, tuple)
            self.assertEqual({digit.__class__ for digit in function("12", 10)}, {int})

    def test_by_name(self):
        self.assertEqual(parse_code(base=16, text="fab"), (15, 10, 11))
        self.assertEqual(parse_partial(base=16, text="f?b"), (15, None, 11))

    def test_read_and_written_again(self):
        for base in (2, 10, 16, 36):
            for many in (1, 2, 7, 30):
                code = tuple((place * place + many) % base for place in range(many))
                self.assertEqual(parse_code(format_code(code), base), code)
                self.assertEqual(parse_partial(format_code(code), base), code)
                self.assertEqual(format_code(parse_code(format_code(code), base)), format_code(code))


class FormatWeightsTest(RaisingCase):
    def test_texts(self):
        self.assertEqual(format_weights(10, 11, (1, 2, 3, 4), 0), "10 11 0 1 2 3 4")
        self.assertEqual(format_weights(2, 2, (0,), 1), "2 2 1 0")
        self.assertEqual(format_weights(36, 200, (199,) * 30, 199), "36 200 199" + " 199" * 30)

    def test_weights_as_remainders(self):
        self.assertEqual(format_weights(10, 11, (-1, 11, 12, -27, 14, 0), 10), "10 11 10 10 0 1 6 3 0")
        great = 10**60 - 1
        text = f"10 97 5 {great % 97} {-great % 97} {10**59 % 97}"
        self.assertEqual(format_weights(10, 97, (great, -great, 10**59), 5), text)

    def test_wrong_bases(self):
        for base in WRONG_BASES:
            self.raises(InvalidBase, format_weights, base, 11, (1, 2), 0)

    def test_wrong_moduli(self):
        for modulus in WRONG_MODULI:
            self.raises(InvalidModulus, format_weights, 10, modulus, (1, 2), 0)

    def test_wrong_weights(self):
        for weights in (*OTHER_VALUES, Comparing(), [1, 2], (1,) * 31, (1,) * 60, "12", range(2), {0: 1}):
            if isinstance(weights, Comparing) or weights != (1, 2, 3, 4):
                self.raises(InvalidWeights, format_weights, 10, 11, weights, 0)
        for weight in (*NO_INTEGERS, Comparing()):
            for weights in ((weight,), (1, weight), (weight, 1), (1,) * 29 + (weight,)):
                self.raises(InvalidWeights, format_weights, 10, 11, weights, 0)

    def test_wrong_remainders(self):
        for modulus in (2, 11, 200):
            for remainder in (*NO_INTEGERS, -1, modulus, modulus + 1, 10**59, -(10**59)):
                self.raises(InvalidRemainder, format_weights, 10, modulus, (1, 2), remainder)

    def test_first_wrong_argument_counts(self):
        self.raises(InvalidBase, format_weights, 1, 1, (), -1)
        self.raises(InvalidModulus, format_weights, 10, 1, (), -1)
        self.raises(InvalidWeights, format_weights, 10, 11, (), -1)
        self.raises(InvalidBase, format_weights, remainder=-1, weights=(), modulus=1, base=1)

    def test_by_name_and_remainder_is_needed(self):
        self.assertEqual(format_weights(remainder=3, weights=(1, 2), modulus=11, base=10), "10 11 3 1 2")
        with self.assertRaises(TypeError):
            format_weights(10, 11, (1, 2))

    def test_arguments_are_unchanged(self):
        weights = [12, -1]
        for _ in range(2):
            self.raises(InvalidWeights, format_weights, 10, 11, weights, 0)
            self.assertEqual(format_weights(10, 11, tuple(weights), 0), "10 11 0 1 10")
        self.assertEqual(weights, [12, -1])


class ParseWeightsTest(TextCase):
    def test_rules(self):
        self.assertEqual(parse_weights("10 11 0 1 2 3 4"), Rule.weighted(10, 11, (1, 2, 3, 4)))
        self.assertEqual(parse_weights("2 2 1 0"), Rule.weighted(2, 2, (0,), 1))
        self.assertEqual(parse_weights("36 200 199" + " 199" * 30), Rule.weighted(36, 200, (199,) * 30, 199))
        self.assertIs(parse_weights("10 11 0 1").__class__, Rule)
        self.assertEqual(parse_weights(text="10 11 0 1"), parse_weights("10 11 0 1"))

    def test_read_and_written_again(self):
        for base, modulus in ((2, 2), (10, 11), (36, 200), (16, 97)):
            for many in (1, 2, 29, 30):
                weights = tuple(place * place % modulus for place in range(many))
                for remainder in (0, modulus - 1):
                    text = format_weights(base, modulus, weights, remainder)
                    self.assertEqual(parse_weights(text), Rule.weighted(base, modulus, weights, remainder))
                    words = text.split(" ")
                    self.assertEqual(words, [str(number) for number in (base, modulus, remainder, *weights)])

    def test_missing_words(self):
        self.refused(0, parse_weights, "")
        self.refused(1, parse_weights, "10")
        self.refused(2, parse_weights, "10 11")
        self.refused(3, parse_weights, "10 11 0")

    def test_numbers_just_outside(self):
        for word in ("0", "1", "37", "100", "-2", "2.0", "9" * 60, "9" * 61, "9" * 500):
            self.refused(0, parse_weights, word + " 11 0 1")
            self.refused(0, parse_weights, word)
        for word in ("0", "1", "201", "1000", "-11", "9" * 60, "9" * 500):
            self.refused(1, parse_weights, "10 " + word + " 0 1")
            self.refused(1, parse_weights, "10 " + word)
        for word in ("11", "12", "-1", "9" * 60, "9" * 500):
            self.refused(2, parse_weights, "10 11 " + word + " 1")
            self.refused(2, parse_weights, "10 11 " + word)
            self.refused(3, parse_weights, "10 11 0 " + word)
            self.refused(4, parse_weights, "10 11 0 1 " + word + " 2")
            self.refused(32, parse_weights, "10 11 0" + " 1" * 29 + " " + word)

    def test_numbers_just_inside(self):
        for text in ("2 2 0 1", "36 2 1 1", "2 200 199 199", "36 200 0 0", "10 11 10 10", "10 199 198 198"):
            base, modulus, remainder, weight = map(int, text.split())
            self.assertEqual(parse_weights(text), Rule.weighted(base, modulus, (weight,), remainder))

    def test_number_of_weights(self):
        self.assertEqual(len(parse_weights("10 11 0" + " 1" * 30)), 30)
        for many in (31, 32, 60, 400):
            self.refused(33, parse_weights, "10 11 0" + " 1" * many)
        self.refused(33, parse_weights, "10 11 0" + " 1" * 30 + " ")
        self.refused(33, parse_weights, "10 11 0" + " 1" * 30 + " x")
        self.refused(32, parse_weights, "10 11 0" + " 1" * 29 + " x 1")

    def test_leading_zeros(self):
        self.assertEqual(parse_weights("10 11 0 0 0"), Rule.weighted(10, 11, (0, 0)))
        for text, index in (
            ("010 11 0 1", 0), ("10 011 0 1", 1), ("10 11 00 1", 2), ("10 11 01 1", 2), ("10 11 0 01", 3),
            ("10 11 0 00", 3), ("10 11 0 1 000", 4), ("010 011 00 01", 0),
        ):
            self.refused(index, parse_weights, text)

    def test_each_word_in_another_form(self):
        words = ["10", "11", "3", "1", "2"]
        forms = ("", "+3", "-3", "3.0", "3e0", "0x3", "1_0", "a", "?", "3,", "3\n", "\t3", "\n", "None", "\u00b2", "\u0663")
        others = ("\uff13", "\u2462", "3\u00a0", "\u00a03", "3\u2009", "3\u0663", "\u4e09", "3\x00", "\ud800", "--3", "3-")
        for index in range(len(words)):
            for form in (*forms, *others, "1\u0660", "\u0661\u0660", "10\n", "\n10", "10\t", "10\r", "10\x0c", "1\u200b0"):
                text = " ".join(words[:index] + [form] + words[index + 1:])
                self.refused(index, parse_weights, text)

    def test_blanks(self):
        for text, index in (
            (" ", 0), ("  ", 0), (" 10 11 0 1", 0), ("10  11 0 1", 1), ("10 11  0 1", 2), ("10 11 0  1", 3), ("10 ", 1),
            ("10 11 ", 2), ("10 11 0 ", 3), ("10 11 0 1 ", 4), ("10 11 0 1  2", 4), ("10\t11 0 1", 0), ("10 11 0\n1", 2),
            ("10 11 0 1\n", 3), ("10\u00a011 0 1", 0), ("10,11,0,1", 0),
        ):
            self.refused(index, parse_weights, text)

    def test_doubled_words(self):
        self.refused(2, parse_weights, "10 10 11 0 1")
        self.refused(2, parse_weights, "10 11 11 0 1")
        self.assertEqual(parse_weights("10 11 0 0 1"), Rule.weighted(10, 11, (0, 1)))

    def test_first_word_that_cannot_stand(self):
        self.refused(0, parse_weights, "1 1 1 1")
        self.refused(1, parse_weights, "2 1 1 1")
        self.refused(2, parse_weights, "2 2 2 2")
        self.refused(3, parse_weights, "2 2 1 2 2")

    def test_no_strings(self):
        for value in (*NO_STRINGS, ["10", "11", "0", "1"], (10, 11, 0, 1), b"10 11 0 1", Rule.weighted(10, 11, (1,))):
            self.refused(None, parse_weights, value)
            self.refused(None, parse_weights, text=value)


class ExampleTest(unittest.TestCase):
    def test_of_the_document(self):
        seen = [format_code((2, 11, 0)), parse_partial("1?1?", 10), format_weights(10, 11, (1, 2, 14), 0)]
        self.assertEqual(seen, ["2b0", (1, None, 1, None), "10 11 0 1 2 3"])


if __name__ == "__main__":
    unittest.main()
