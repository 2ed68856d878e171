"""[8] (f), [15] Alike: whether two rules have the same valid codes, and the least code that tells them apart."""

import unittest
from collections import Counter
from itertools import product

from checkdigits.alike import same_codes, telling_code
from checkdigits.counting import count_valid
from checkdigits.errors import InvalidRule, NotAlike
from checkdigits.rules import Rule
from tests.samples import OTHER_VALUES, Comparing, RaisingCase
from tests.samples import plain_sum, rule_by_formula, valid_codes

RULE = Rule.weighted(10, 11, (1, 2))
# Rules of one group have the same base and the same number of places.
GROUPS = (
    (
        RULE,
        Rule.weighted(10, 11, (2, 4)),
        Rule.weighted(10, 11, (1, 3)),
        Rule.weighted(10, 11, (1, 2), 5),
        Rule.weighted(10, 22, (2, 4)),
        Rule.weighted(10, 22, (2, 4), 1),
        Rule.weighted(10, 30, (1, 29)),
        Rule.weighted(10, 29, (1, -1)),
        Rule.weighted(10, 2, (1, 1)),
        Rule.weighted(10, 10, (0, 0), 3),
        Rule.weighted(10, 10, (0, 0), 0),
        Rule.weighted(10, 7, (0, 0), 0),
        rule_by_formula(10, 30, 2, 7, 3),
    ),
    (
        Rule(5, ((0, 1, 4), (0, 0, 0), (4, 2, 2)), 3),
        Rule(5, ((1, 2, 0), (0, 0, 0), (4, 2, 2)), 4),
        Rule(5, ((4, 0, 3), (1, 1, 1), (4, 2, 2)), 3),
        Rule(10, ((0, 2, 8), (0, 0, 0), (8, 4, 4)), 6),
        Rule(3, ((0, 1, 1), (2, 2, 0), (0, 1, 2)), 1),
        Rule(2, ((0, 1, 0), (0, 0, 0), (0, 0, 0)), 0),
        Rule(4, ((0, 3, 2), (0, 2, 0), (2, 0, 2)), 0),
        Rule(30, ((0, 29, 7), (14, 2, 0), (2, 0, 25)), 16),
        Rule(9, ((1, 1, 1), (1, 1, 1), (1, 1, 1)), 2),
        Rule(9, ((1, 1, 1), (1, 1, 1), (1, 1, 1)), 3),
    ),
    tuple(Rule(3, (row,), remainder) for row in product(range(3), repeat=2) for remainder in range(3)),
    tuple(Rule.weighted(2, modulus, weights, 1) for modulus, weights in (
        (2, (1, 1, 1, 1, 1)), (3, (1, 2, 1, 2, 1)), (4, (1, 2, 3, 0, 1)), (30, (1, 2, 4, 8, 16)), (30, (0, 0, 0, 0, 0)),
        (15, (1, 2, 4, 8, 1)), (29, (1, 1, 1, 1, 1)), (12, (1, 1, 1, 1, 1)), (6, (1, 1, 1, 1, 1)),
    )),
)


def told_by_definition(rule, other):
    codes = product(range(rule.base), repeat=len(rule))
    for code in codes:
        if (plain_sum(rule, code) == rule.remainder) != (plain_sum(other, code) == other.remainder):
            return code
    return None


def multiplied(rule, factor):
    """The sums are multiplied; no valid code is lost or won if the factor and the modulus have no common divisor."""
    rows = tuple(tuple(number * factor % rule.modulus for number in row) for row in rule.rows)
    return Rule(rule.modulus, rows, rule.remainder * factor % rule.modulus)


def with_modulus_times(rule, factor):
    rows = tuple(tuple(number * factor for number in row) for row in rule.rows)
    return Rule(rule.modulus * factor, rows, rule.remainder * factor)


def moved(rule, place, number, other_place=None):
    """A number is added to the row of one place, and taken from that of another one or added to the remainder."""
    rows = [list(row) for row in rule.rows]
    rows[place] = [(value + number) % rule.modulus for value in rows[place]]
    remainder = rule.remainder
    if other_place is None:
        remainder = (remainder + number) % rule.modulus
    else:
        rows[other_place] = [(value - number) % rule.modulus for value in rows[other_place]]
    return Rule(rule.modulus, tuple(tuple(row) for row in rows), remainder)


def count_telling_with(rule, other, beginning):
    """How many codes with a beginning are valid for exactly one of the rules, by [8] (f)."""
    sums = Counter({(plain_sum(rule, beginning), plain_sum(other, beginning)): 1})
    for place in range(len(beginning), len(rule)):
        longer = Counter()
        for (one, two), many in sums.items():
            for number, number_of_other in zip(rule.rows[place], other.rows[place]):
                longer[(one + number) % rule.modulus, (two + number_of_other) % other.modulus] += many
        sums = longer
    return sum(many for (one, two), many in sums.items() if (one == rule.remainder) != (two == other.remainder))


class SmallRulesTest(RaisingCase):
    """Everything against going through all codes."""

    def test_all_pairs_in_both_orders(self):
        for group in GROUPS:
            for rule, other in product(group, repeat=2):
                told = told_by_definition(rule, other)
                self.assertEqual(telling_code(rule, other), told, (rule.rows, other.rows))
                self.assertIs(same_codes(rule, other), told is None, (rule.rows, other.rows))

    def test_the_samples_hold_what_they_should(self):
        for group in GROUPS:
            told = [told_by_definition(rule, other) for rule, other in product(group, repeat=2)]
            self.assertGreater(told.count(None), len(group))
            self.assertGreaterEqual(len(set(told)), 3)

    def test_all_weights_of_two_places(self):
        rule = Rule.weighted(4, 5, (1, 2), 3)
        for modulus in (2, 5, 10):
            for first, second, remainder in product(range(modulus), repeat=3):
                other = Rule.weighted(4, modulus, (first, second), remainder)
                self.assertEqual(telling_code(rule, other), told_by_definition(rule, other))

    def test_types(self):
        self.assertIs(same_codes(RULE, RULE), True)
        self.assertIs(same_codes(RULE, Rule.weighted(10, 11, (1, 3))), False)
        self.assertIsNone(telling_code(RULE, RULE))
        code = telling_code(RULE, Rule.weighted(10, 11, (1, 3)))
        self.assertIs(code.__class__, tuple)
        self.assertEqual({digit.__class__ for digit in code}, {int})

    def test_the_least_code_may_be_the_first_or_the_last(self):
        self.assertEqual(telling_code(RULE, Rule.weighted(10, 11, (1, 2), 1)), (0, 0))
        last = Rule(2, ((0, 0, 1), (0, 0, 1)), 0)
        other = Rule(3, ((0, 0, 1), (0, 0, 1)), 0)
        # (2, 2) alone has the sum 2, which is 0 only by the first modulus.
        self.assertEqual(telling_code(last, other), (2, 2))


class SameCodesTest(RaisingCase):
    """Rules with the same codes in another form."""

    def each(self):
        for group in GROUPS:
            yield from group
        yield Rule.weighted(36, 30, tuple(range(1, 31)), 7)
        yield Rule.weighted(2, 29, (5,) * 30, 3)
        yield rule_by_formula(10, 13, 30, 4, 3)

    def both(self, rule, other):
        for one, two in ((rule, other), (other, rule)):
            self.assertIs(same_codes(one, two), True, (rule.rows, other.rows))
            self.assertIsNone(telling_code(one, two))

    def test_multiplied(self):
        for rule in self.each():
            factors = [k for k in (7, 11, 29) if rule.modulus % k != 0]
            for factor in factors:
                self.both(rule, multiplied(rule, factor))

    def test_multiple_of_the_modulus(self):
        for rule in self.each():
            for factor in (2, 3, 15):
                if rule.modulus * factor <= 30:
                    self.both(rule, with_modulus_times(rule, factor))

    def test_moved_numbers(self):
        for rule in self.each():
            for number in (1, rule.modulus - 1):
                self.both(rule, moved(rule, 0, number))
                self.both(rule, moved(rule, len(rule) - 1, number))
                if len(rule) > 1:
                    self.both(rule, moved(rule, 0, number, len(rule) - 1))

    def test_a_number_that_is_not_moved_to_the_end(self):
        rule = Rule.weighted(10, 11, (1,) * 30, 7)
        other = Rule(11, moved(rule, 17, 4).rows, 7)
        self.assertIs(same_codes(rule, other), False)


class WithoutValidCodesTest(RaisingCase):
    def test_without_valid_codes(self):
        never = Rule.weighted(10, 10, (2, 4), 1)
        never_either = Rule(7, ((1,) * 10, (1,) * 10), 3)
        self.assertEqual((count_valid(never), count_valid(never_either)), (0, 0))
        self.assertIs(same_codes(never, never_either), True)
        self.assertIsNone(telling_code(never_either, never))
        for rule in GROUPS[0]:
            least = (valid_codes(rule) or [None])[0]
            self.assertEqual(telling_code(rule, never), least)
            self.assertEqual(telling_code(never, rule), least)

    def test_30_places(self):
        never = Rule.weighted(36, 30, (2,) * 30, 1)
        self.assertIs(same_codes(never, Rule.weighted(36, 28, (4,) * 30, 2)), True)
        rule = Rule.weighted(36, 30, (1,) * 30, 7)
        self.assertEqual(telling_code(rule, never), (0,) * 29 + (7,))
        self.assertEqual(telling_code(never, rule), (0,) * 29 + (7,))

    def test_all_codes_are_valid(self):
        always = Rule(2, ((1,) * 10,) * 30, 0)
        self.assertIs(same_codes(always, Rule.weighted(10, 3, (3,) * 30)), True)
        self.assertEqual(telling_code(always, Rule.weighted(10, 30, (0,) * 29 + (10,))), (0,) * 29 + (1,))
        self.assertEqual(telling_code(Rule.weighted(10, 30, (10,) + (0,) * 29), always), (1,) + (0,) * 29)


class LongRulesTest(RaisingCase):
    """30 places, where the codes cannot be gone through."""

    def pairs(self):
        weights = tuple(range(1, 31))
        rule = Rule.weighted(10, 11, weights)
        yield rule, Rule.weighted(10, 11, weights[:29] + (31,))
        yield rule, Rule.weighted(10, 11, (2,) + weights[1:])
        yield rule, Rule.weighted(10, 11, weights, 4)
        yield Rule.weighted(36, 30, weights, 29), Rule.weighted(36, 29, weights, 28)
        yield Rule.weighted(2, 30, (1,) * 30), Rule.weighted(2, 29, (1,) * 30)
        yield Rule.weighted(2, 30, (1,) * 30, 29), Rule.weighted(2, 28, (1,) * 30, 27)
        yield rule_by_formula(10, 30, 30, 4, 3), rule_by_formula(10, 30, 30, 4, 7)
        yield rule_by_formula(36, 27, 30, 4, 3), rule_by_formula(36, 25, 30, 24, 11)

    def test_told_by_counting(self):
        for rule, other in self.pairs():
            code = telling_code(rule, other)
            self.assertEqual(telling_code(other, rule), code)
            self.assertIs(same_codes(rule, other), False)
            self.assertNotEqual(code in rule, code in other)
            # No code with the same beginning and a lesser digit tells them apart.
            for place, digit in enumerate(code):
                for less in range(digit):
                    self.assertEqual(count_telling_with(rule, other, code[:place] + (less,)), 0, (code, place, less))

    def test_late_places_alone_decide(self):
        # With two digits, a sum of thirty ones is 0 modulo 29 and 30 for few codes.
        rule, other = Rule.weighted(2, 30, (1,) * 30), Rule.weighted(2, 29, (1,) * 30)
        self.assertEqual(telling_code(rule, other), (0,) + (1,) * 29)

    def test_only_one_code_tells_them_apart(self):
        most = Rule.weighted(2, 29, (0,) * 2 + (1,) * 28, 28)
        none = Rule.weighted(2, 29, (0,) * 30, 28)
        self.assertEqual(telling_code(most, none), (0, 0) + (1,) * 28)
        rows = ((0, 1),) * 2 + ((0, 1),) * 28
        self.assertEqual(telling_code(Rule(30, rows, 29), none), (0,) + (1,) * 29)


class WrongArgumentsTest(RaisingCase):
    def test_no_rules(self):
        for function in (same_codes, telling_code):
            for value in (*OTHER_VALUES, Comparing(), RULE.rows, (RULE,), [RULE], Rule.weighted):
                self.raises(InvalidRule, function, value, RULE)
                self.raises(InvalidRule, function, RULE, value)
                self.raises(InvalidRule, function, value, value)
                self.raises(InvalidRule, function, other=value, rule=RULE)
                self.raises(InvalidRule, function, other=RULE, rule=value)

    def test_not_alike(self):
        others = (
            Rule.weighted(9, 11, (1, 2)), Rule.weighted(36, 11, (1, 2)), Rule.weighted(10, 11, (1,)),
            Rule.weighted(10, 11, (1, 2, 0)), Rule.weighted(10, 11, (1,) * 30), Rule.weighted(11, 11, (1, 2)),
            Rule.weighted(2, 2, (1,) * 10), Rule.weighted(4, 11, (1,)),
        )
        for function in (same_codes, telling_code):
            for other in others:
                self.raises(NotAlike, function, RULE, other)
                self.raises(NotAlike, function, other, RULE)
                self.raises(NotAlike, function, other=other, rule=RULE)

    def test_as_many_codes_are_not_enough(self):
        for function in (same_codes, telling_code):
            self.raises(NotAlike, function, Rule.weighted(4, 3, (1, 1)), Rule.weighted(2, 3, (1, 1, 1, 1)))

    def test_first_error_counts(self):
        for function in (same_codes, telling_code):
            self.raises(InvalidRule, function, None, Rule.weighted(9, 11, (1,)))
            self.raises(InvalidRule, function, Rule.weighted(9, 11, (1,)), None)


class CallsTest(RaisingCase):
    """[2]: by position and by name, twice, with arguments that stay as they are."""

    def test_by_name(self):
        other = Rule.weighted(10, 11, (1, 3))
        self.assertEqual(telling_code(other=other, rule=RULE), (1, 5))
        self.assertIs(same_codes(other=other, rule=RULE), False)
        self.assertIs(same_codes(RULE, other=Rule.weighted(10, 11, (2, 4))), True)

    def test_rules_are_unchanged(self):
        rule, other = Rule.weighted(10, 11, (1, 2)), Rule.weighted(10, 11, (1, 3))
        rows = rule.rows
        for _ in range(2):
            self.assertEqual(telling_code(rule, other), (1, 5))
            self.assertIs(same_codes(rule, other), False)
            self.raises(NotAlike, telling_code, rule, Rule.weighted(9, 11, (1, 2)))
        self.assertIs(rule.rows, rows)
        self.assertEqual((rule, other), (RULE, Rule.weighted(10, 11, (1, 3))))


class ExampleTest(unittest.TestCase):
    def test_of_the_document(self):
        rule = Rule.weighted(10, 11, (1, 2))
        seen = [same_codes(rule, Rule.weighted(10, 11, (2, 4))), telling_code(rule, Rule.weighted(10, 11, (1, 3)))]
        self.assertEqual(seen, [True, (1, 5)])


if __name__ == "__main__":
    unittest.main()
