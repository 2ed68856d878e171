"""[7], [8], [14] Fixing: sums by several rules, fixes, and whether rules tell changes."""

import unittest
from itertools import product

from checkdigits.counting import count_valid, nth_valid
from checkdigits.errors import InvalidCode, InvalidRules
from checkdigits.fixing import equal_steps, fixes, is_equal_steps, sums_of, tells_changes
from checkdigits.rules import Rule
from tests.samples import NO_INTEGERS, OTHER_VALUES, Comparing, RaisingCase
from tests.samples import all_codes, large_rules, no_codes, plain_sum, rule_by_formula, small_rules

ONE = Rule.weighted(10, 11, (1, 1, 1, 1))
TWO = Rule.weighted(10, 11, (1, 2, 3, 4))
BOTH = (ONE, TWO)
WITH_CODE = (sums_of, fixes)
WITHOUT_MORE = (tells_changes, equal_steps)


def small_groups():
    """One, two and three rules with so few codes that a test can go through all of them."""
    return [
        *[(rule,) for rule in small_rules()],
        BOTH,
        (TWO, ONE),
        (ONE, ONE),
        (ONE, TWO, Rule.weighted(10, 7, (1, 3, 2, 6), 5)),
        (ONE, Rule.weighted(10, 97, (1, 10, 3, 30), 60)),
        (Rule.weighted(10, 10, (1, 3, 1)), Rule.weighted(10, 10, (1, 3, 1), 1)),
        (Rule.weighted(10, 10, (1, 3, 1)), Rule.weighted(10, 10, (1, 1, 3)), Rule.weighted(10, 10, (3, 1, 1), 4)),
        (Rule.weighted(3, 7, (1, 1, 1, 1, 1)), Rule.weighted(3, 7, (1, 2, 3, 4, 5), 2)),
        (rule_by_formula(3, 13, 6, 4, 3), rule_by_formula(3, 200, 6, 150, 11)),
        (Rule(5, ((0, 1, 4), (0, 0, 0), (4, 2, 2)), 3), Rule.weighted(3, 5, (1, 2, 4)), Rule.weighted(3, 2, (1, 1, 1))),
        (Rule.weighted(2, 16, (1, 2, 4, 8)), Rule.weighted(2, 3, (1, 1, 1, 1), 2)),
        (Rule.weighted(2, 31, (1, 2, 4, 8), 30),),
        (Rule(11, ((0, 2, 5),), 2),),
        (Rule(11, ((0, 2, 2),), 2), Rule(11, ((3, 2, 3),), 3)),
    ]


def large_groups():
    """Rules with 30 places."""
    same_base = Rule.weighted(36, 199, (1,) * 30, 7)
    primes = (Rule.weighted(10, 31, (1,) * 30), Rule.weighted(10, 31, tuple(range(1, 31)), 4))
    return [
        *[(rule,) for rule in large_rules()],
        (large_rules()[0], large_rules()[3], same_base),
        primes,
        primes[::-1],
        (same_base, Rule.weighted(36, 199, tuple(range(30)), 7)),
    ]


def steps_of(rules):
    places, digits = range(len(rules[0])), range(rules[0].base)
    return [step for step in product(places, digits, digits) if step[1] != step[2]]


def shift_of(rules, step):
    """The shift as the difference of two sums, of codes that differ in the step alone."""
    place, old, new = step
    before, after = [0] * len(rules[0]), [0] * len(rules[0])
    before[place], after[place] = old, new
    return tuple((plain_sum(rule, after) - plain_sum(rule, before)) % rule.modulus for rule in rules)


def tell_by_definition(rules):
    shifts = {step: shift_of(rules, step) for step in steps_of(rules)}
    zeros = (0,) * len(rules)
    places = {}
    for step, shift in shifts.items():
        places.setdefault(shift, set()).add(step[0])
    return zeros not in places and all(len(those) == 1 for those in places.values())


def all_changes(code, base):
    for place, digit in product(range(len(code)), range(base)):
        if digit != code[place]:
            yield place, digit, code[:place] + (digit,) + code[place + 1:]


def valid_for_all(rules, code):
    return all(plain_sum(rule, code) == rule.remainder for rule in rules)


def fixes_by_trying(rules, code):
    changes = all_changes(code, rules[0].base)
    return [(place, digit) for place, digit, other in changes if valid_for_all(rules, other)]


def some_codes(rules):
    codes = all_codes(rules[0])
    return [*codes[:: max(1, len(codes) // 40)], codes[-1], *[code for code in codes if valid_for_all(rules, code)][:5]]


class SumsTest(RaisingCase):
    def test_sums(self):
        for rules in small_groups():
            for code in some_codes(rules):
                sums = sums_of(rules, code)
                self.assertEqual(sums, tuple(plain_sum(rule, code) for rule in rules))
                self.assertIs(sums.__class__, tuple)

    def test_long_codes(self):
        for rules in large_groups():
            for code in ((0,) * 30, (rules[0].base - 1,) * 30, tuple(k % rules[0].base for k in range(30))):
                self.assertEqual(sums_of(rules, code), tuple(plain_sum(rule, code) for rule in rules))


class FixesTest(RaisingCase):
    def test_all_changes(self):
        for rules in small_groups():
            for code in some_codes(rules):
                found = fixes(rules, code)
                self.assertEqual(found, fixes_by_trying(rules, code), (rules[0].rows, code))
                self.assertIs(found.__class__, list)
                self.assertTrue({item.__class__ for item in found} <= {tuple})

    def test_long_codes(self):
        for rules in large_groups():
            code = nth_valid(rules[0], count_valid(rules[0]) // 3)
            for other in (code, code[:17] + ((code[17] + 1) % rules[0].base,) + code[18:]):
                self.assertEqual(fixes(rules, other), fixes_by_trying(rules, other))

    def test_a_valid_code_keeps_its_digits(self):
        self.assertEqual(fixes(BOTH, (0, 0, 0, 0)), [])
        # A row with equal numbers leaves a code valid, but only by another digit.
        rules = (Rule(5, ((0, 1, 1), (2, 2, 2)), 3),)
        self.assertEqual(fixes(rules, (1, 1)), [(0, 2), (1, 0), (1, 2)])

    def test_ascending(self):
        self.assertEqual(fixes((ONE,), (5, 5, 5, 5)), [(0, 7), (1, 7), (2, 7), (3, 7)])
        rules = (Rule(3, ((0, 1, 0, 1), (1, 1, 1, 1), (0, 1, 1, 0)), 2),)
        self.assertEqual(fixes(rules, (0, 0, 0)), [(0, 1), (0, 3), (2, 1), (2, 2)])

    def test_just_one_fix_where_rules_tell_changes(self):
        # [8] (e)
        groups = [rules for rules in small_groups() if tells_changes(rules)]
        self.assertEqual({len(rules) for rules in groups}, {1, 2, 3})
        for rules in groups:
            valid = [code for code in all_codes(rules[0]) if valid_for_all(rules, code)]
            for code in valid[:: max(1, len(valid) // 30)]:
                for place, _, other in all_changes(code, rules[0].base):
                    self.assertEqual(fixes(rules, other), [(place, code[place])])

    def test_no_code_is_valid(self):
        rules = (Rule.weighted(10, 10, (2, 4, 6), 1), Rule.weighted(10, 10, (1, 3, 1)))
        for code in all_codes(rules[0])[::37]:
            self.assertEqual(fixes(rules, code), [])


class TellsChangesTest(RaisingCase):
    def test_all_steps(self):
        seen = set()
        for rules in small_groups() + large_groups()[-3:]:
            told = tell_by_definition(rules)
            self.assertIs(tells_changes(rules), told, rules[0].rows)
            seen.add((len(rules), told))
        self.assertEqual(seen, set(product((1, 2, 3), (True, False))))

    def test_small_moduli(self):
        for weights in product(range(5), repeat=3):
            for rules in ((Rule.weighted(2, 5, weights),), (Rule.weighted(2, 5, weights), Rule.weighted(2, 3, (1, 1, 2)))):
                self.assertIs(tells_changes(rules), tell_by_definition(rules), weights)
                self.assertIs(equal_steps(rules) is None, tell_by_definition(rules), weights)

    def test_equal_shifts_at_one_place_do_not_count(self):
        rules = (Rule(11, ((0, 1, 2, 3),), 0),)
        self.assertIs(tells_changes(rules), True)
        self.assertIsNone(equal_steps(rules))

    def test_remainders_do_not_count(self):
        for remainder in range(11):
            other = Rule.weighted(10, 11, (1, 2, 3, 4), remainder)
            self.assertIs(tells_changes((ONE, other)), True)
            self.assertIs(tells_changes((other,)), False)


class EqualStepsTest(RaisingCase):
    def test_checked_by_is_equal_steps(self):
        for rules in small_groups() + large_groups():
            steps = equal_steps(rules)
            if tell_by_definition(rules):
                self.assertIsNone(steps)
            else:
                self.assertIs(is_equal_steps(rules, steps), True, (rules[0].rows, steps))
                self.assertTrue(self.is_by_definition(rules, steps))
            self.assertEqual(equal_steps(rules), steps)

    def is_by_definition(self, rules, steps):
        if not set(steps) <= set(steps_of(rules)):
            return False
        shifts = [shift_of(rules, step) for step in steps]
        if len(steps) == 1:
            return shifts == [(0,) * len(rules)]
        return len(steps) == 2 and steps[0][0] < steps[1][0] and shifts[0] == shifts[1]

    def test_all_pairs_of_steps(self):
        groups = [rules for rules in small_groups() if len(steps_of(rules)) < 60]
        self.assertGreater(len(groups), 5)
        for rules in groups:
            steps = steps_of(rules)
            found = False
            for value in [*[(step,) for step in steps], *product(steps, repeat=2)]:
                answer = is_equal_steps(rules, value)
                self.assertIs(answer, self.is_by_definition(rules, value), value)
                found = found or answer
            self.assertIs(found, not tells_changes(rules))

    def test_one_step(self):
        rules = (Rule(5, ((0, 1, 1), (0, 1, 2)), 3), Rule(7, ((4, 6, 6), (0, 0, 0)), 3))
        for value in (((0, 1, 2),), ((0, 2, 1),)):
            self.assertIs(is_equal_steps(rules, value), True)
        for value in (((0, 0, 1),), ((1, 0, 1),), ((0, 1, 1),), (0, 1, 2), [(0, 1, 2)], ([0, 1, 2],)):
            self.assertIs(is_equal_steps(rules, value), False, value)

    def test_two_steps_with_zeros_only(self):
        rules = (Rule(5, ((0, 1, 1), (2, 2, 3)), 3),)
        self.assertIs(is_equal_steps(rules, ((0, 1, 2), (1, 0, 1))), True)
        self.assertIs(is_equal_steps(rules, ((0, 1, 2), (1, 0, 2))), False)

    def test_no_equal_steps(self):
        rules = (ONE,)
        self.assertIs(is_equal_steps(rules, ((0, 0, 5), (3, 2, 7))), True)
        wrong = [
            ((3, 2, 7), (0, 0, 5)), ((0, 0, 5), (0, 2, 7)), ((0, 0, 5), (0, 0, 5)), ((0, 0, 5), (3, 2, 8)),
            ((0, 0, 0), (3, 2, 2)), ((0, 0, 5), (3, 7, 7)), ((0, 4, 4),), ((0, 0, 5),), (),
            ((0, 0, 5), (1, 0, 5), (2, 0, 5)), ((0, 0, 5), (3, 2, 7), ()), ((0, 0, 5), (3, 2, 7), (3, 2, 7)),
            [(0, 0, 5), (3, 2, 7)], ([0, 0, 5], (3, 2, 7)), ((0, 0, 5), [3, 2, 7]), ((0, 0, 5), (3, 2)),
            ((0, 0, 5), (3, 2, 7, 0)), ((0, 0), (3, 2)), ((0, 0, 5), None), (None, (3, 2, 7)), ("005", "327"),
            (b"\x00\x00\x05", b"\x03\x02\x07"), ((0, 0, 5), (4, 2, 7)), ((-1, 0, 5), (3, 2, 7)), ((0, 0, 5), 327),
            ((0, -5, 0), (3, 2, 7)), ((0, 0, 5), (3, 5, 10)), ((0, 0, 5), (3, 10, 4)), (((0, 0, 5), (3, 2, 7)),),
            ((False, 0, 5), (3, 2, 7)), ((0, False, 5), (3, 2, 7)), ((0, 0, 1), (True, 0, 1)), ((0, 0, 1), (3, 0, True)),
            {0: (0, 0, 5), 1: (3, 2, 7)}, {(0, 0, 5), (3, 2, 7)}, 0, 1, ((0, 0, 5), (10**59, 2, 7)),
            *[((0, 0, 5), (3, 2, value)) for value in NO_INTEGERS],
            *[((0, 0, 5), (3, value, 7)) for value in NO_INTEGERS],
            *[((value, 0, 5), (3, 2, 7)) for value in NO_INTEGERS],
            *OTHER_VALUES, Comparing(), (Comparing(),), (Comparing(), Comparing()), ONE, rules, (ONE, ONE),
        ]
        for value in wrong:
            self.assertIs(is_equal_steps(rules, value), False, value)

    def test_none_where_rules_tell_changes(self):
        for value in (None, ((0, 0, 5), (3, 2, 7)), ((0, 0, 5),), ()):
            self.assertIs(is_equal_steps(BOTH, value), False)

    def test_deep_values(self):
        value = 0
        for _ in range(20):
            value = (value,)
        self.assertIs(is_equal_steps((ONE,), value), False)


class WrongArgumentsTest(RaisingCase):
    def wrong_rules(self):
        longer, other_base = Rule.weighted(10, 11, (1, 2, 3, 4, 5)), Rule.weighted(9, 11, (1, 2, 3, 4))
        same_codes_in_number = Rule.weighted(2, 11, (1, 2)), Rule.weighted(4, 11, (1,))
        return [
            *OTHER_VALUES, Comparing(), ONE, ONE.rows, (), [], [ONE], [ONE, TWO], {ONE.base: ONE}, (ONE,) * 4,
            (ONE, TWO, ONE, TWO), (ONE, None), (None, ONE), (ONE, TWO, None), (ONE, "rule"), (ONE, ONE.rows), ((ONE,),),
            (ONE, (TWO,)), (ONE, [TWO]), (ONE, Rule), (ONE, Comparing()), (ONE, longer), (longer, ONE), (ONE, TWO, longer),
            (ONE, other_base), (other_base, ONE), (ONE, TWO, other_base), (ONE, longer, TWO), same_codes_in_number,
        ]

    def test_wrong_rules(self):
        for value in self.wrong_rules():
            for function in WITH_CODE:
                self.raises(InvalidRules, function, value, (0, 0, 0, 0))
            for function in WITHOUT_MORE:
                self.raises(InvalidRules, function, value)
            self.raises(InvalidRules, is_equal_steps, value, ((0, 0, 5), (3, 2, 7)))
            self.raises(InvalidRules, is_equal_steps, value, None)

    def test_one_to_three_rules(self):
        for rules in ((ONE,), BOTH, (ONE, TWO, ONE)):
            self.assertEqual(len(sums_of(rules, (1, 2, 3, 4))), len(rules))

    def test_no_codes(self):
        for rules in (*small_groups()[:3], BOTH, (ONE, TWO, ONE), *large_groups()[-2:]):
            for value in no_codes(rules[0]):
                for function in WITH_CODE:
                    self.raises(InvalidCode, function, rules, value)

    def test_several_at_once(self):
        for function in WITH_CODE:
            self.raises(InvalidRules, function, (), ())
            self.raises(InvalidRules, function, [ONE], [0, 0, 0, 0])
            self.raises(InvalidRules, function, code=None, rules=None)


class CallsTest(RaisingCase):
    """[2]: by position and by name, twice, with arguments that stay as they are."""

    def test_by_name(self):
        self.assertEqual(sums_of(code=(1, 9, 4, 0), rules=BOTH), (3, 9))
        self.assertEqual(fixes(code=(1, 9, 4, 0), rules=BOTH), [(2, 1)])
        self.assertIs(tells_changes(rules=BOTH), True)
        self.assertIsNone(equal_steps(rules=BOTH))
        self.assertIs(is_equal_steps(value=((0, 0, 5), (3, 2, 7)), rules=(ONE,)), True)

    def test_a_list_that_the_caller_changes(self):
        for rules, code in ((BOTH, (1, 9, 4, 0)), ((ONE,), (5, 5, 5, 5)), (BOTH, (0, 0, 0, 0))):
            found = fixes(rules, code)
            seen = list(found)
            found.append(None)
            found[0] = 7
            self.assertEqual(fixes(rules, code), seen)

    def test_arguments_are_unchanged(self):
        one, two = Rule.weighted(10, 11, (1, 1, 1, 1)), Rule.weighted(10, 11, (1, 2, 3, 4))
        group, code, value = [one, two], [1, 9, 4, 0], [(0, 0, 5), (3, 2, 7)]
        for _ in range(2):
            for function in WITH_CODE:
                self.raises(InvalidRules, function, group, tuple(code))
                self.raises(InvalidCode, function, tuple(group), code)
                self.assertEqual(function(tuple(group), tuple(code)), function(BOTH, (1, 9, 4, 0)))
            for function in WITHOUT_MORE:
                self.raises(InvalidRules, function, group)
                self.assertEqual(function(tuple(group)), function(BOTH))
            self.assertIs(is_equal_steps((one,), value), False)
        self.assertTrue(group[0] is one and group[1] is two and len(group) == 2)
        self.assertEqual((code, value), ([1, 9, 4, 0], [(0, 0, 5), (3, 2, 7)]))
        self.assertEqual((one, two), BOTH)


class ExampleTest(unittest.TestCase):
    def test_of_the_document(self):
        code = (1, 9, 4, 0)
        seen = [tells_changes(BOTH), tells_changes((ONE,)), sums_of(BOTH, code), fixes(BOTH, code)]
        self.assertEqual(seen, [True, False, (3, 9), [(2, 1)]])

    def test_of_the_document_for_equal_steps(self):
        self.assertIs(is_equal_steps((ONE,), ((0, 0, 5), (3, 2, 7))), True)


if __name__ == "__main__":
    unittest.main()
