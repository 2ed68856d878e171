"""[4], [5], [9] Rules: what they are made of, their sums, their valid codes, their equality."""

import unittest

from checkdigits.errors import InvalidBase, InvalidCode, InvalidModulus, InvalidRemainder, InvalidRows, InvalidWeights
from checkdigits.rules import Rule
from tests.samples import NO_INTEGERS, OTHER_VALUES, OTHER_VALUES_WITHOUT_CODES, Comparing, RaisingCase
from tests.samples import all_codes, large_rules, no_codes, plain_sum, rule_by_formula, small_rules, valid_codes

ROWS = ((0, 1, 2), (2, 0, 1))


class MakingTest(RaisingCase):
    def test_parts(self):
        rule = Rule(3, ROWS, 2)
        self.assertEqual((rule.modulus, rule.rows, rule.remainder, rule.base, len(rule)), (3, ROWS, 2, 3, 2))
        self.assertIsInstance(rule.rows, tuple)
        self.assertIsInstance(rule.rows[0], tuple)

    def test_by_name(self):
        rule = Rule(remainder=2, rows=ROWS, modulus=3)
        self.assertEqual((rule.modulus, rule.rows, rule.remainder), (3, ROWS, 2))
        self.assertEqual(rule, Rule(3, ROWS, 2))

    def test_remainder_is_needed(self):
        with self.assertRaises(TypeError):
            Rule(3, ROWS)

    def test_most_places(self):
        self.assertEqual((Rule.MOST_PLACES, Rule(3, ROWS, 0).MOST_PLACES), (30, 30))

    def test_properties_cannot_be_assigned(self):
        rule = Rule(3, ROWS, 2)
        for name in ("modulus", "rows", "remainder", "base"):
            with self.subTest(name), self.assertRaises(AttributeError):
                setattr(rule, name, 2)

    def test_bounds_that_hold(self):
        for base in (2, 36):
            for modulus in (2, 200):
                for places in (1, 30):
                    rows = ((0,) * (base - 1) + (modulus - 1,),) * places
                    for remainder in (0, modulus - 1):
                        rule = Rule(modulus, rows, remainder)
                        parts = (rule.modulus, rule.rows, rule.remainder, rule.base, len(rule))
                        self.assertEqual(parts, (modulus, rows, remainder, base, places))

    def test_wrong_modulus(self):
        for modulus in (*NO_INTEGERS, 0, 1, 201, -1, -2, 10**59, -(10**59)):
            self.raises(InvalidModulus, Rule, modulus, ((0, 0),), 0)

    def test_wrong_values_for_rows(self):
        for rows in OTHER_VALUES:
            if rows != ((0, 1), (0, 1)):
                self.raises(InvalidRows, Rule, 3, rows, 0)

    def test_lists_are_no_rows(self):
        for rows in (list(ROWS), [list(row) for row in ROWS], (list(ROWS[0]), ROWS[1]), (ROWS[0], list(ROWS[1]))):
            self.raises(InvalidRows, Rule, 3, rows, 0)

    def test_wrong_number_of_rows(self):
        for places in (0, 31, 60):
            self.raises(InvalidRows, Rule, 3, ((0, 1),) * places, 0)

    def test_wrong_length_of_rows(self):
        for base in (0, 1, 37, 60):
            for places in (1, 2, 30):
                self.raises(InvalidRows, Rule, 3, ((0,) * base,) * places, 0)

    def test_unequal_length_of_rows(self):
        for rows in (((0, 1), (0, 1, 2)), ((0, 1, 2), (0, 1)), ((0, 1), (0, 1), (0,)), ((0, 1), ())):
            self.raises(InvalidRows, Rule, 3, rows, 0)

    def test_wrong_numbers_in_rows(self):
        for number in (*NO_INTEGERS, -1, 3, 4, 10**59, -(10**59)):
            for rows in (((number, 0),), ((0, number),), ((0, 1), (0, number)), ((0, 1), (number, 1), (0, 1))):
                self.raises(InvalidRows, Rule, 3, rows, 0)

    def test_numbers_in_rows_go_by_the_modulus(self):
        for modulus in (2, 11, 199, 200):
            self.assertEqual(Rule(modulus, ((0, modulus - 1),), 0).rows, ((0, modulus - 1),))
            self.raises(InvalidRows, Rule, modulus, ((0, modulus),), 0)

    def test_other_rows_and_rules_inside(self):
        rule = Rule(3, ROWS, 0)
        for rows in (rule, (rule,), (ROWS,), "01", ("01", "01"), (b"\x00\x01",), (range(2),), ({0: 1, 1: 0},)):
            self.raises(InvalidRows, Rule, 3, rows, 0)

    def test_wrong_remainder(self):
        for modulus in (2, 3, 200):
            for remainder in (*NO_INTEGERS, -1, modulus, modulus + 1, 10**59, -(10**59)):
                self.raises(InvalidRemainder, Rule, modulus, ((0, 1),), remainder)

    def test_first_wrong_argument_counts(self):
        self.raises(InvalidModulus, Rule, 1, (), 5)
        self.raises(InvalidModulus, Rule, True, ((0, 1),), 5)
        self.raises(InvalidRows, Rule, 2, ((0, 2),), 2)
        self.raises(InvalidRows, Rule, 2, [], None)
        self.raises(InvalidModulus, Rule, remainder=5, rows=(), modulus=201)

    def test_rows_are_unchanged(self):
        rows = [[0, 1], [1, 0]]
        self.raises(InvalidRows, Rule, 2, rows, 0)
        self.assertEqual(rows, [[0, 1], [1, 0]])


class WeightedTest(RaisingCase):
    def test_rows(self):
        rule = Rule.weighted(4, 5, (1, 2, 0))
        self.assertEqual(rule.rows, ((0, 1, 2, 3), (0, 2, 4, 1), (0, 0, 0, 0)))
        self.assertEqual((rule.base, rule.modulus, rule.remainder, len(rule)), (4, 5, 0, 3))
        self.assertIs(type(rule), Rule)
        self.assertIsInstance(rule.rows, tuple)
        self.assertIsInstance(rule.rows[0], tuple)

    def test_rows_of_negative_and_great_weights(self):
        rule = Rule.weighted(3, 10, (-1, 10, 13, -27, 10**59 + 7, -(10**59) - 7))
        rows = ((0, 9, 8), (0, 0, 0), (0, 3, 6), (0, 3, 6), (0, 7, 4), (0, 3, 6))
        self.assertEqual(rule.rows, rows)

    def test_rows_of_many_weights(self):
        for weight in (0, 1, -1, 199, 200, 201, -200, 10**60 - 1, 1 - 10**60, 123456789**6):
            for base, modulus in ((2, 2), (2, 200), (36, 2), (36, 200), (10, 97)):
                rule = Rule.weighted(base, modulus, (weight,))
                for digit in range(base):
                    number = rule.rows[0][digit]
                    self.assertEqual((number - weight * digit) % modulus, 0)
                    self.assertTrue(0 <= number < modulus)

    def test_remainder(self):
        self.assertEqual(Rule.weighted(10, 11, (1, 2), 10).remainder, 10)
        self.assertEqual(Rule.weighted(10, 11, (1, 2), remainder=10).remainder, 10)
        self.assertEqual(Rule.weighted(10, 11, (1, 2)).remainder, 0)
        self.assertEqual(Rule.weighted(10, 11, (1, 2)), Rule.weighted(10, 11, (1, 2), 0))

    def test_by_name(self):
        rule = Rule.weighted(remainder=3, weights=(1, 2), modulus=11, base=10)
        self.assertEqual(rule, Rule.weighted(10, 11, (1, 2), 3))
        self.assertEqual(Rule.weighted(base=10, modulus=11, weights=(1, 2)), Rule.weighted(10, 11, (1, 2)))

    def test_bounds_that_hold(self):
        for base in (2, 36):
            for modulus in (2, 200):
                for places in (1, 30):
                    for remainder in (0, modulus - 1):
                        rule = Rule.weighted(base, modulus, (1,) * places, remainder)
                        row = tuple(digit % modulus for digit in range(base))
                        self.assertEqual((rule.rows, rule.remainder), ((row,) * places, remainder))
                        self.assertEqual((rule.base, rule.modulus, len(rule)), (base, modulus, places))

    def test_wrong_base(self):
        for base in (*NO_INTEGERS, 0, 1, 37, -2, -10, 10**59, -(10**59)):
            self.raises(InvalidBase, Rule.weighted, base, 11, (1, 2))

    def test_wrong_modulus(self):
        for modulus in (*NO_INTEGERS, 0, 1, 201, -2, -11, 10**59, -(10**59)):
            self.raises(InvalidModulus, Rule.weighted, 10, modulus, (1, 2))

    def test_wrong_values_for_weights(self):
        for weights in OTHER_VALUES:
            if weights != (1, 2, 3, 4):
                self.raises(InvalidWeights, Rule.weighted, 10, 11, weights)

    def test_wrong_number_of_weights(self):
        for places in (0, 31, 60):
            self.raises(InvalidWeights, Rule.weighted, 10, 11, (1,) * places)

    def test_wrong_numbers_in_weights(self):
        for weight in NO_INTEGERS:
            for weights in ((weight,), (1, weight), (weight, 1), (1,) * 29 + (weight,)):
                self.raises(InvalidWeights, Rule.weighted, 10, 11, weights)

    def test_wrong_remainder(self):
        for modulus in (2, 11, 200):
            for remainder in (*NO_INTEGERS, -1, modulus, modulus + 1, 10**59, -(10**59)):
                self.raises(InvalidRemainder, Rule.weighted, 10, modulus, (1, 2), remainder)

    def test_first_wrong_argument_counts(self):
        self.raises(InvalidBase, Rule.weighted, 1, 1, (), -1)
        self.raises(InvalidBase, Rule.weighted, 37, 11, (1,), 0)
        self.raises(InvalidModulus, Rule.weighted, 10, 201, [], -1)
        self.raises(InvalidWeights, Rule.weighted, 10, 11, [1], 11)
        self.raises(InvalidBase, Rule.weighted, remainder=11, weights=[1], modulus=1, base=None)

    def test_weights_are_unchanged(self):
        weights = [1, 2, 3]
        self.raises(InvalidWeights, Rule.weighted, 10, 11, weights)
        self.assertEqual(weights, [1, 2, 3])


class SumTest(RaisingCase):
    def test_all_codes(self):
        for rule in small_rules():
            for code in all_codes(rule):
                if rule(code) != plain_sum(rule, code):
                    self.fail((rule.rows, code))

    def test_by_name_and_twice(self):
        rule = Rule.weighted(10, 11, (1, 2, 3, 4))
        self.assertEqual([rule(code=(9, 9, 9, 9)), rule((9, 9, 9, 9)), rule((9, 9, 9, 9))], [2, 2, 2])

    def test_long_codes(self):
        for rule in large_rules():
            top = rule.base - 1
            for code in ((0,) * 30, (top,) * 30, (0, top) * 15, tuple(place % rule.base for place in range(30))):
                self.assertEqual(rule(code), plain_sum(rule, code))

    def test_no_codes(self):
        for rule in small_rules() + large_rules():
            for value in [*no_codes(rule), rule, (rule,) * len(rule)]:
                self.raises(InvalidCode, rule, value)

    def test_places_decide(self):
        self.raises(InvalidCode, Rule.weighted(10, 11, (1, 2, 3)), (1, 2, 3, 4))
        self.assertEqual(Rule.weighted(10, 11, (1, 2, 3, 4))((1, 2, 3, 4)), 30 % 11)
        self.raises(InvalidCode, Rule.weighted(4, 11, (1, 2, 3, 4)), (1, 2, 3, 4))

    def test_arguments_are_unchanged(self):
        rule = Rule.weighted(10, 11, (1, 2))
        code = [1, 2]
        self.raises(InvalidCode, rule, code)
        self.assertEqual((code, rule), ([1, 2], Rule.weighted(10, 11, (1, 2))))


class ContainsTest(RaisingCase):
    def test_all_codes(self):
        for rule in small_rules():
            self.assertEqual([code for code in all_codes(rule) if code in rule], valid_codes(rule))

    def test_answers_are_bools(self):
        rule = Rule.weighted(10, 11, (1, 2, 3, 4))
        self.assertIs((2, 1, 1, 1) in rule, True)
        self.assertIs((2, 1, 1, 2) in rule, False)
        self.assertIs((2, 1, 1) in rule, False)

    def test_no_codes(self):
        for rule in small_rules() + large_rules():
            for value in [*no_codes(rule), *OTHER_VALUES_WITHOUT_CODES, rule, (rule,) * len(rule)]:
                self.assertIs(value in rule, False, value)

    def test_bools_are_no_digits(self):
        rule = Rule.weighted(2, 2, (1, 1))
        self.assertIs((1, 1) in rule, True)
        for value in ((True, 1), (1, True), (True, True), (False, False), (0, False), [1, 1], {1: 1}, "11", b"\1\1"):
            self.assertIs(value in rule, False, value)

    def test_deep_values(self):
        value = 0
        for _ in range(20):
            value = (value,)
        self.assertIs(value in Rule.weighted(10, 11, (1,)), False)
        self.assertIs([[[{"a": [(0, 0)]}]]] in Rule.weighted(10, 11, (1,)), False)

    def test_arguments_are_unchanged(self):
        rule = Rule.weighted(10, 11, (1, 2))
        value = [0, 0]
        self.assertIs(value in rule, False)
        self.assertEqual((value, rule), ([0, 0], Rule.weighted(10, 11, (1, 2))))


class InvertTest(RaisingCase):
    def test_rows_are_reversed(self):
        for rule in small_rules() + large_rules():
            back = ~rule
            self.assertIs(type(back), Rule)
            self.assertEqual((back.modulus, back.remainder), (rule.modulus, rule.remainder))
            self.assertEqual((back.base, len(back)), (rule.base, len(rule)))
            self.assertIsInstance(back.rows, tuple)
            self.assertEqual(list(back.rows), list(reversed(rule.rows)))

    def test_twice(self):
        for rule in small_rules() + large_rules():
            self.assertEqual(~~rule, rule)

    def test_the_rule_itself_is_unchanged(self):
        rule = Rule(3, ROWS, 2)
        self.assertEqual((~rule).rows, ROWS[::-1])
        self.assertEqual((~rule).rows, ROWS[::-1])
        self.assertEqual(rule.rows, ROWS)

    def test_codes_are_read_backwards(self):
        rule = rule_by_formula(3, 13, 4, 4, 3)
        self.assertEqual(sorted(code[::-1] for code in valid_codes(rule)), valid_codes(~rule))


class EqualityTest(unittest.TestCase):
    def test_equal_parts(self):
        rows = tuple(tuple(list(row)) for row in ROWS)
        self.assertTrue(Rule(3, ROWS, 2) == Rule(3, rows, 2))
        self.assertFalse(Rule(3, ROWS, 2) != Rule(3, rows, 2))
        self.assertIs(Rule(3, ROWS, 2) == Rule(3, rows, 2), True)

    def test_equal_rules_made_in_different_ways(self):
        rule = Rule.weighted(3, 5, (1, 2), 4)
        same = (
            Rule(5, ((0, 1, 2), (0, 2, 4)), 4),
            Rule.weighted(3, 5, (6, -3), 4),
            Rule.weighted(3, 5, (1 - 10**59, 10**59 + 2), remainder=4),
            ~Rule.weighted(3, 5, (2, 1), 4),
            ~~rule,
        )
        for other in same:
            self.assertTrue(rule == other and other == rule)
            self.assertFalse(rule != other or other != rule)

    def test_one_part_differs(self):
        rule = Rule(5, ((0, 1), (2, 3)), 1)
        different = (
            Rule(6, ((0, 1), (2, 3)), 1),
            Rule(5, ((0, 1), (2, 3)), 2),
            Rule(5, ((0, 1), (2, 4)), 1),
            Rule(5, ((1, 1), (2, 3)), 1),
            Rule(5, ((2, 3), (0, 1)), 1),
            Rule(5, ((0, 1), (2, 3), (0, 0)), 1),
            Rule(5, ((0, 1),), 1),
            Rule(5, ((0, 1, 0), (2, 3, 0)), 1),
        )
        for other in different:
            self.assertFalse(rule == other or other == rule)
            self.assertTrue(rule != other and other != rule)

    def test_same_valid_codes_do_not_make_equal(self):
        self.assertFalse(Rule.weighted(10, 11, (1, 2)) == Rule.weighted(10, 11, (2, 4)))

    def test_other_values(self):
        rule = Rule(3, ROWS, 2)
        others = (*OTHER_VALUES, (3, ROWS, 2), [3, ROWS, 2], ROWS, rule.rows, Comparing())
        for other in others:
            self.assertIs(rule == other, False, other)
            self.assertIs(rule != other, True, other)


class ExampleTest(unittest.TestCase):
    def test_of_the_document(self):
        rule = Rule.weighted(10, 11, (1, 2, 3, 4))
        seen = [len(rule), rule((1, 0, 0, 0)), (2, 1, 1, 1) in rule, (2, 1, 1) in rule, rule.rows[3]]
        self.assertEqual(seen, [4, 1, True, False, (0, 4, 8, 1, 5, 9, 2, 6, 10, 3)])


if __name__ == "__main__":
    unittest.main()
