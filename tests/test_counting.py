"""[10] Counting: the number of valid codes, their numbers, the codes below and from a code on."""

import unittest
from itertools import product

from checkdigits.counting import count_below, count_valid, next_valid, nth_valid, valid_number
from checkdigits.errors import InvalidCode, InvalidNumber, InvalidRule, NotValid
from checkdigits.rules import Rule
from tests.samples import NO_INTEGERS, OTHER_VALUES, RaisingCase
from tests.samples import all_codes, large_rules, no_codes, plain_sum, small_rules, valid_codes

RULE = Rule.weighted(10, 11, (1, 2, 3, 4))
WITH_CODE = (valid_number, count_below, next_valid)


class SmallRulesTest(RaisingCase):
    """Everything against going through all codes."""

    def test_count(self):
        for rule in small_rules():
            self.assertEqual(count_valid(rule), len(valid_codes(rule)))

    def test_all_numbers(self):
        for rule in small_rules():
            valid = valid_codes(rule)
            numbers = sorted({*range(min(60, len(valid))), *range(0, len(valid), 37), *range(len(valid))[-5:]})
            for number in numbers:
                self.assertEqual(nth_valid(rule, number), valid[number])
                self.assertEqual(valid_number(rule, valid[number]), number)

    def test_all_codes_below_and_from(self):
        for rule in small_rules():
            valid = valid_codes(rule)
            codes = all_codes(rule)
            step = max(1, len(codes) // 150)
            for code in [*codes[::step], *codes[-7:]]:
                less = len([other for other in valid if other < code])
                self.assertEqual(count_below(rule, code), less)
                self.assertEqual(next_valid(rule, code), valid[less] if less < len(valid) else None)

    def test_codes_that_are_not_valid(self):
        for rule in small_rules():
            codes = [code for code in all_codes(rule) if plain_sum(rule, code) != rule.remainder]
            for code in [*codes[:20], *codes[-20:]]:
                self.raises(NotValid, valid_number, rule, code)

    def test_tuples_of_integers_come_back(self):
        code = nth_valid(RULE, 5)
        self.assertIs(type(code), tuple)
        self.assertEqual({type(digit) for digit in code}, {int})
        self.assertIs(type(next_valid(RULE, (0, 0, 0, 1))), tuple)
        self.assertIs(type(count_valid(RULE)), int)
        self.assertIs(type(count_below(RULE, (0, 0, 0, 0))), int)
        self.assertIs(type(valid_number(RULE, (0, 0, 0, 0))), int)

    def test_all_remainders_share_the_codes(self):
        for modulus in (2, 7, 200):
            rules = [Rule.weighted(5, modulus, (3, 1, 2), remainder) for remainder in range(modulus)]
            self.assertEqual(sum(count_valid(rule) for rule in rules), 125)


class NumbersTest(RaisingCase):
    def test_first_and_last(self):
        self.assertEqual(count_valid(RULE), 909)
        self.assertEqual(nth_valid(RULE, 0), (0, 0, 0, 0))
        self.assertEqual(nth_valid(RULE, 908), valid_codes(RULE)[-1])

    def test_just_outside(self):
        for rule in small_rules() + large_rules():
            many = count_valid(rule)
            for number in (-1, many, many + 1, -many - 1):
                self.raises(InvalidNumber, nth_valid, rule, number)

    def test_far_outside(self):
        for number in (10**59, -(10**59)):
            self.raises(InvalidNumber, nth_valid, RULE, number)

    def test_no_integers(self):
        for number in NO_INTEGERS:
            self.raises(InvalidNumber, nth_valid, RULE, number)
            self.raises(InvalidNumber, nth_valid, Rule.weighted(10, 10, (2,), 1), number)

    def test_no_valid_code(self):
        for rule in (Rule.weighted(10, 10, (2, 4, 6), 1), Rule.weighted(36, 200, (10,) * 30, 5), Rule(2, ((1, 1),), 0)):
            zeros, tops = (0,) * len(rule), (rule.base - 1,) * len(rule)
            self.assertEqual(count_valid(rule), 0)
            for code in (zeros, tops):
                self.assertEqual(count_below(rule, code), 0)
                self.assertIsNone(next_valid(rule, code))
                self.raises(NotValid, valid_number, rule, code)
            for number in (-1, 0, 1):
                self.raises(InvalidNumber, nth_valid, rule, number)

    def test_all_codes_valid(self):
        rule = Rule(2, ((1,) * 3,) * 3, 1)
        self.assertEqual(count_valid(rule), 27)
        self.assertEqual(nth_valid(rule, 26), (2, 2, 2))
        self.assertEqual(next_valid(rule, (1, 2, 0)), (1, 2, 0))
        self.assertEqual(valid_number(rule, (1, 2, 0)), 15)


class NextTest(RaisingCase):
    def test_a_valid_code_is_its_own(self):
        for code in valid_codes(RULE)[::50]:
            self.assertEqual(next_valid(RULE, code), code)

    def test_behind_the_last_one(self):
        rule = Rule.weighted(10, 11, (1, 1), 0)
        self.assertEqual(nth_valid(rule, count_valid(rule) - 1), (9, 2))
        self.assertEqual(next_valid(rule, (9, 2)), (9, 2))
        self.assertIsNone(next_valid(rule, (9, 3)))
        self.assertIsNone(next_valid(rule, (9, 9)))
        self.assertEqual([count_below(rule, (9, 2)), count_below(rule, (9, 3)), count_below(rule, (9, 9))], [8, 9, 9])

    def test_digits_in_front_change_where_they_must(self):
        rule = Rule.weighted(10, 100, (10, 1, 0), 55)
        self.assertEqual(next_valid(rule, (0, 0, 0)), (5, 5, 0))
        self.assertEqual(next_valid(rule, (5, 5, 9)), (5, 5, 9))
        self.assertIsNone(next_valid(rule, (5, 6, 0)))


class LargeRulesTest(RaisingCase):
    """30 places, also with base 36 and modulus 200."""

    def test_numbers_there_and_back(self):
        for rule in large_rules():
            many = count_valid(rule)
            for number in (0, 1, many // 3, many // 2, many - 2, many - 1):
                code = nth_valid(rule, number)
                self.assertEqual(plain_sum(rule, code), rule.remainder)
                self.assertEqual(valid_number(rule, code), number)
                self.assertEqual(count_below(rule, code), number)
                self.assertEqual(next_valid(rule, code), code)

    def test_neighbours(self):
        for rule in large_rules():
            many = count_valid(rule)
            for code in (nth_valid(rule, 0), nth_valid(rule, many // 5), nth_valid(rule, many - 1)):
                tails = product(range(rule.base), repeat=2)
                near = [code[:28] + tail for tail in tails]
                valid = [other for other in near if plain_sum(rule, other) == rule.remainder]
                first = count_below(rule, near[0])
                self.assertEqual([nth_valid(rule, first + k) for k in range(len(valid))], valid)
                for other in near[::97]:
                    self.assertEqual(count_below(rule, other), first + len([one for one in valid if one < other]))

    def test_counts_that_can_be_told(self):
        self.assertEqual(count_valid(Rule.weighted(2, 2, (1,) * 30, 1)), 2**29)
        self.assertEqual(count_valid(Rule.weighted(10, 10, (0,) * 29 + (3,), 7)), 10**29)
        self.assertEqual(count_valid(Rule.weighted(36, 200, (200,) * 30)), 36**30)
        self.assertEqual(count_valid(Rule.weighted(36, 200, (1,) + (0,) * 29, 35)), 36**29)
        self.assertEqual(count_valid(Rule.weighted(36, 200, (1,) + (0,) * 29, 36)), 0)
        self.assertEqual(count_valid(Rule.weighted(36, 6, (1,) * 30, 5)), 36**30 // 6)

    def test_both_halves_make_the_whole(self):
        for rule in large_rules():
            halves = (rule.rows[:15], rule.rows[15:])
            counts = [
                [count_valid(Rule(rule.modulus, half, total)) for total in range(rule.modulus)] for half in halves
            ]
            pairs = [
                counts[0][total] * counts[1][(rule.remainder - total) % rule.modulus] for total in range(rule.modulus)
            ]
            self.assertEqual(count_valid(rule), sum(pairs))

    def test_all_remainders_share_the_codes(self):
        rows = large_rules()[3].rows
        counts = [count_valid(Rule(200, rows, remainder)) for remainder in range(200)]
        self.assertEqual(sum(counts), 36**30)

    def test_ends(self):
        for rule in large_rules():
            zeros, tops = (0,) * 30, (rule.base - 1,) * 30
            many = count_valid(rule)
            self.assertEqual(count_below(rule, zeros), 0)
            self.assertEqual(next_valid(rule, zeros), nth_valid(rule, 0))
            self.assertEqual(count_below(rule, tops) + (tops in rule), many)
            self.assertEqual(next_valid(rule, tops), tops if tops in rule else None)


class WrongArgumentsTest(RaisingCase):
    def test_no_rules(self):
        for value in (*OTHER_VALUES, RULE.rows, (RULE,), [RULE]):
            self.raises(InvalidRule, count_valid, value)
            self.raises(InvalidRule, nth_valid, value, 0)
            for function in WITH_CODE:
                self.raises(InvalidRule, function, value, (0, 0, 0, 0))

    def test_no_codes(self):
        for rule in [*small_rules()[:6], *large_rules()[:2]]:
            for value in no_codes(rule):
                for function in WITH_CODE:
                    self.raises(InvalidCode, function, rule, value)

    def test_several_at_once(self):
        self.raises(InvalidRule, nth_valid, None, None)
        self.raises(InvalidRule, nth_valid, number=-1, rule=[])
        for function in WITH_CODE:
            self.raises(InvalidRule, function, None, None)
            self.raises(InvalidRule, function, (0, 0, 0, 0), RULE)
            self.raises(InvalidRule, function, code=[], rule=0)
        self.raises(InvalidCode, valid_number, RULE, (0, 0, 0, 10))


class CallsTest(RaisingCase):
    """[2]: by position and by name, twice, with arguments that stay as they are."""

    def test_by_name(self):
        code = (0, 0, 2, 4)
        self.assertEqual(count_valid(rule=RULE), 909)
        self.assertEqual(nth_valid(number=2, rule=RULE), code)
        self.assertEqual(valid_number(code=code, rule=RULE), 2)
        self.assertEqual(count_below(code=code, rule=RULE), 2)
        self.assertEqual(next_valid(code=code, rule=RULE), code)

    def test_twice(self):
        code = (0, 0, 2, 4)
        for _ in range(2):
            self.assertEqual((count_valid(RULE), nth_valid(RULE, 2)), (909, code))
            self.assertEqual((valid_number(RULE, code), count_below(RULE, code)), (2, 2))
            self.assertEqual(next_valid(RULE, (0, 0, 2, 0)), code)

    def test_rules_are_unchanged(self):
        rule = Rule.weighted(10, 11, (1, 2, 3, 4))
        rows = rule.rows
        count_valid(rule)
        nth_valid(rule, 7)
        self.raises(InvalidNumber, nth_valid, rule, 909)
        for function in WITH_CODE:
            function(rule, (0, 0, 0, 0))
            self.raises(InvalidCode, function, rule, (0, 0, 0))
        self.raises(NotValid, valid_number, rule, (0, 0, 0, 1))
        self.assertIs(rule.rows, rows)
        self.assertEqual(rule, RULE)

    def test_wrong_values_are_unchanged(self):
        code, number = [0, 0, 0, 0], [1]
        for function in WITH_CODE:
            self.raises(InvalidCode, function, RULE, code)
        self.raises(InvalidNumber, nth_valid, RULE, number)
        self.assertEqual((code, number), ([0, 0, 0, 0], [1]))

    def test_equal_rules_give_equal_results(self):
        other = ~Rule.weighted(10, 11, (15, -8, 2, 12))
        self.assertEqual(other, RULE)
        self.assertEqual([nth_valid(other, k) for k in range(50)], [nth_valid(RULE, k) for k in range(50)])


class ExampleTest(unittest.TestCase):
    def test_of_the_document(self):
        rule = Rule.weighted(10, 11, (1, 2, 3, 4))
        seen = [count_valid(rule), nth_valid(rule, 1), next_valid(rule, (0, 0, 1, 3)), valid_number(rule, (0, 0, 2, 4))]
        self.assertEqual(seen, [909, (0, 0, 1, 2), (0, 0, 2, 4), 2])


if __name__ == "__main__":
    unittest.main()
