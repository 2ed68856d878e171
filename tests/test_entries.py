"""[16] Entries: codes that are typed digit by digit, what is undone, what can still be typed."""

import unittest
from itertools import product

from checkdigits.counting import count_valid, nth_valid
from checkdigits.entries import Entry
from checkdigits.errors import Complete, InvalidDigit, InvalidRule, NothingToUndo
from checkdigits.rules import Rule
from tests.samples import NO_INTEGERS, OTHER_VALUES, Comparing, RaisingCase
from tests.samples import large_rules, plain_sum, rule_by_formula, small_rules, valid_codes

RULE = Rule.weighted(10, 11, (1, 2, 3, 4))
# Their valid codes are few enough to be gone through for each beginning.
RULES_FOR_BEGINNINGS = (
    Rule.weighted(10, 10, (1, 3, 1), 7),
    Rule.weighted(10, 97, (10, 1, -3), 96),
    Rule.weighted(10, 10, (2, 4, 6), 1),
    Rule.weighted(2, 2, (1,), 0),
    Rule.weighted(2, 2, (0,), 1),
    Rule.weighted(2, 200, (1, 2, 4, 8, 16, 32, 64, 128), 199),
    Rule.weighted(36, 2, (1, 1), 1),
    Rule(5, ((0, 1, 4), (0, 0, 0), (4, 2, 2)), 3),
    Rule(2, ((1,) * 36,), 1),
    Rule(2, ((1,) * 36,), 0),
    rule_by_formula(3, 13, 6, 4, 3),
    rule_by_formula(7, 12, 3, 0, 5),
)


def entry_with(rule, *calls):
    """An entry after calls of push with these digits."""
    entry = Entry(rule)
    for digits in calls:
        entry.push(*digits)
    return entry


def state_of(entry):
    return entry.typed, len(entry), entry.sum_now, entry.rule, entry.open_digits(), entry.ending()


def count_calls_to_undo(entry):
    """How many calls are left to undo; a copy is used up for it."""
    copy, many = entry.copy_of(), 0
    while True:
        try:
            copy.undo()
        except NothingToUndo:
            return many
        many += 1


def beginnings(rule):
    for many in range(len(rule) + 1):
        yield from product(range(rule.base), repeat=many)


class BeginningTest(RaisingCase):
    """What an entry says, against all codes that begin with the digits typed."""

    def test_all_beginnings(self):
        for rule in RULES_FOR_BEGINNINGS:
            endings = {}
            for code in valid_codes(rule):
                for many in range(len(rule) + 1):
                    endings.setdefault(code[:many], []).append(code[many:])
            for digits in beginnings(rule):
                entry = entry_with(rule, digits)
                left = endings.get(digits, [])
                self.assertEqual(entry.typed, digits)
                self.assertEqual(len(entry), len(digits))
                self.assertEqual(entry.sum_now, plain_sum(rule, digits))
                self.assertEqual(entry.open_digits(), sorted({ending[0] for ending in left if ending}), digits)
                self.assertEqual(entry.ending(), min(left, default=None), digits)

    def test_at_the_start(self):
        for rule in small_rules():
            entry, codes = Entry(rule), valid_codes(rule)
            self.assertEqual((entry.typed, len(entry), entry.sum_now), ((), 0, 0))
            self.assertIs(entry.rule, rule)
            self.assertEqual(entry.open_digits(), sorted({code[0] for code in codes}))
            self.assertEqual(entry.ending(), min(codes, default=None))
            self.raises(NothingToUndo, entry.undo)

    def test_at_the_end(self):
        entry = entry_with(RULE, (2, 1, 1, 1))
        self.assertEqual((entry.open_digits(), entry.ending(), entry.sum_now), ([], (), 0))
        entry = entry_with(RULE, (2, 1, 1, 2))
        self.assertEqual((entry.open_digits(), entry.ending(), entry.sum_now), ([], None, 4))

    def test_no_valid_code_is_left(self):
        for rule, digits in (
            (Rule.weighted(10, 10, (2, 4, 6), 1), ()),
            (Rule.weighted(10, 10, (2, 4, 6), 1), (3, 4)),
            (Rule.weighted(10, 97, (10, 1, -3), 96), (0, 6)),
            (Rule.weighted(36, 200, (10,) * 30, 5), (1,) * 29),
            (Rule.weighted(36, 200, (10,) * 30, 5), ()),
        ):
            entry = entry_with(rule, digits)
            self.assertEqual((entry.open_digits(), entry.ending()), ([], None))
            # Digits that cannot become valid may be typed all the same.
            self.assertEqual(entry.push(1), len(digits) + 1)

    def test_types(self):
        for entry in (Entry(RULE), entry_with(RULE, (2, 1)), entry_with(RULE, (2, 1, 1, 1))):
            self.assertIs(entry.typed.__class__, tuple)
            self.assertIs(entry.ending().__class__, tuple)
            self.assertIs(entry.open_digits().__class__, list)
            self.assertIs(entry.sum_now.__class__, int)
            self.assertIs(entry.push().__class__, int)
            self.assertIsNone(entry.undo())

    def test_a_list_that_the_caller_changes(self):
        for calls in ((), ((2, 1),), ((2, 1, 1, 1),)):
            entry = entry_with(RULE, *calls)
            before = state_of(entry)
            digits = entry.open_digits()
            digits.append(77)
            digits[0] = 78
            self.assertEqual(state_of(entry), before)
            self.assertIsNot(entry.open_digits(), entry.open_digits())

    def test_asking_changes_nothing(self):
        entry = entry_with(RULE, (2,), (), (1, 1))
        for _ in range(3):
            self.assertEqual(state_of(entry), ((2, 1, 1), 3, 7, RULE, [1], (1,)))
            self.assertEqual(count_calls_to_undo(entry), 3)

    def test_30_places(self):
        for rule in large_rules():
            code = nth_valid(rule, count_valid(rule) // 3)
            entry = Entry(rule)
            for place, digit in enumerate(code):
                self.assertIn(digit, entry.open_digits())
                ending = entry.ending()
                self.assertIn(code[:place] + ending, rule)
                self.assertLessEqual(ending, code[place:])
                self.assertEqual(entry.push(digit), place + 1)
                self.assertEqual(entry.sum_now, plain_sum(rule, code[:place + 1]))
            self.assertEqual((entry.typed, len(entry), entry.open_digits(), entry.ending()), (code, 30, [], ()))
            self.raises(Complete, entry.push, 0)
            for many in range(29, -1, -1):
                entry.undo()
                self.assertEqual(entry.typed, code[:many])
            self.raises(NothingToUndo, entry.undo)

    def test_least_ending_of_30_places(self):
        for rule in large_rules():
            self.assertEqual(Entry(rule).ending(), nth_valid(rule, 0))
            code = nth_valid(rule, count_valid(rule) // 5)
            entry = entry_with(rule, code[:28])
            pairs = list(product(range(rule.base), repeat=2))
            left = [pair for pair in pairs if plain_sum(rule, code[:28] + pair) == rule.remainder]
            self.assertEqual(entry.ending(), left[0])
            self.assertEqual(entry.open_digits(), sorted({pair[0] for pair in left}))


class PushTest(RaisingCase):
    def test_one_by_one(self):
        entry = Entry(RULE)
        for many, digit in enumerate((2, 0, 9, 1), start=1):
            self.assertEqual(entry.push(digit), many)
            self.assertEqual((len(entry), entry.typed), (many, (2, 0, 9, 1)[:many]))

    def test_several_at_once(self):
        entry = Entry(RULE)
        self.assertEqual(entry.push(2, 0), 2)
        self.assertEqual(entry.push(9, 1), 4)
        self.assertEqual(entry.typed, (2, 0, 9, 1))
        self.assertEqual(Entry(RULE).push(2, 0, 9, 1), 4)
        self.assertEqual(Entry(large_rules()[0]).push(*[35] * 30), 30)

    def test_none_at_all(self):
        entry = Entry(RULE)
        self.assertEqual(entry.push(), 0)
        self.assertEqual(entry.push(2, 1, 1, 1), 4)
        self.assertEqual(entry.push(), 4)
        self.assertEqual(entry.typed, (2, 1, 1, 1))
        self.assertEqual(count_calls_to_undo(entry), 3)

    def refused(self, entry, error, *digits):
        before, calls = state_of(entry), count_calls_to_undo(entry)
        self.raises(error, entry.push, *digits)
        self.assertEqual(state_of(entry), before)
        self.assertEqual(count_calls_to_undo(entry), calls)

    def test_no_digits(self):
        entry = entry_with(RULE, (2,), ())
        for value in (*OTHER_VALUES, *NO_INTEGERS, 10, 11, -1, -10, 10**59, -(10**59), Comparing(), RULE):
            if value in (0, 1, 7) and value.__class__ is int:
                continue
            for digits in ((value,), (value, 1, 1), (1, value, 1), (1, 1, value), (value, value)):
                self.refused(entry, InvalidDigit, *digits)

    def test_the_base_decides(self):
        for rule in (Rule.weighted(2, 5, (1, 2)), Rule.weighted(36, 5, (1, 2)), Rule.weighted(5, 36, (1, 2))):
            entry = Entry(rule)
            self.refused(entry, InvalidDigit, rule.base)
            self.refused(entry, InvalidDigit, 0, -1)
            self.assertEqual(entry.push(rule.base - 1), 1)

    def test_too_many_digits(self):
        for typed in range(5):
            entry = entry_with(RULE, (3,) * typed)
            for many in range(5 - typed, 8):
                self.refused(entry, Complete, *[1] * many)
            self.refused(entry, Complete, *[1] * 60)
            self.assertEqual(entry.push(*[1] * (4 - typed)), 4)

    def test_no_digit_and_too_many(self):
        entry = entry_with(RULE, (3, 3, 3))
        for digits in ((1, 10), (10, 1), (1, 1, 1, 1, True), (None,) * 40, ("1", 1)):
            self.refused(entry, InvalidDigit, *digits)
        entry.push(3)
        self.refused(entry, InvalidDigit, 10)
        self.refused(entry, Complete, 9)

    def test_refused_calls_are_not_undone(self):
        entry = Entry(RULE)
        self.raises(InvalidDigit, entry.push, 10)
        self.raises(NothingToUndo, entry.undo)
        entry.push(1, 2)
        self.raises(InvalidDigit, entry.push, 3, None)
        self.raises(Complete, entry.push, 3, 4, 5)
        entry.undo()
        self.assertEqual(entry.typed, ())
        self.raises(NothingToUndo, entry.undo)

    def test_arguments_are_unchanged(self):
        digits = [[1, 2], 3]
        self.raises(InvalidDigit, Entry(RULE).push, *digits)
        self.raises(InvalidDigit, Entry(RULE).push, digits)
        self.assertEqual(digits, [[1, 2], 3])


class UndoTest(RaisingCase):
    def test_back_to_the_start_and_once_more(self):
        entry = entry_with(RULE, (2,), (0, 9), (1,))
        for typed in ((2, 0, 9), (2,), ()):
            self.assertIsNone(entry.undo())
            self.assertEqual((entry.typed, entry.sum_now), (typed, plain_sum(RULE, typed)))
        for _ in range(2):
            before = state_of(entry)
            self.raises(NothingToUndo, entry.undo)
            self.assertEqual(state_of(entry), before)

    def test_calls_without_digits(self):
        entry = entry_with(RULE, (), (2, 0), (), (), (9,), ())
        for typed in ((2, 0, 9), (2, 0), (2, 0), (2, 0), (), ()):
            entry.undo()
            self.assertEqual(entry.typed, typed)
        self.raises(NothingToUndo, entry.undo)

    def test_on_after_undo(self):
        entry = entry_with(RULE, (2, 0), (9, 1))
        entry.undo()
        self.assertEqual(entry.push(5), 3)
        self.assertEqual(entry.typed, (2, 0, 5))
        entry.undo()
        entry.undo()
        self.assertEqual(entry.typed, ())
        self.assertEqual(entry.push(7, 7, 7, 7), 4)
        entry.undo()
        self.raises(NothingToUndo, entry.undo)

    def test_many_calls(self):
        entry = Entry(RULE)
        for number in range(25):
            entry.push(number % 10)
            entry.push()
            entry.undo()
            entry.undo()
        self.assertEqual(entry.typed, ())
        self.raises(NothingToUndo, entry.undo)


class CopyTest(RaisingCase):
    def test_same_rule_digits_and_calls(self):
        entry = entry_with(RULE, (2,), (), (1, 1))
        copy = entry.copy_of()
        self.assertIs(copy.__class__, Entry)
        self.assertIsNot(copy, entry)
        self.assertEqual(state_of(copy), state_of(entry))
        for typed in ((2,), (2,), ()):
            copy.undo()
            self.assertEqual(copy.typed, typed)
        self.raises(NothingToUndo, copy.undo)

    def test_the_copy_changes_alone(self):
        entry = entry_with(RULE, (2,), (1,))
        copy = entry.copy_of()
        copy.push(5, 5)
        self.assertEqual((entry.typed, copy.typed), ((2, 1), (2, 1, 5, 5)))
        self.assertEqual((count_calls_to_undo(entry), count_calls_to_undo(copy)), (2, 3))
        for _ in range(3):
            copy.undo()
        self.assertEqual((entry.typed, copy.typed), ((2, 1), ()))
        entry.undo()
        self.assertEqual(entry.typed, (2,))

    def test_the_original_changes_alone(self):
        entry = entry_with(RULE, (2,), (1,))
        copy = entry.copy_of()
        entry.undo()
        entry.push(7)
        entry.push(8)
        self.assertEqual((entry.typed, copy.typed), ((2, 7, 8), (2, 1)))
        self.assertEqual((count_calls_to_undo(entry), count_calls_to_undo(copy)), (3, 2))
        copy.undo()
        self.assertEqual((entry.typed, copy.typed), ((2, 7, 8), (2,)))

    def test_a_copy_of_a_copy(self):
        entry = entry_with(RULE, (2,))
        copies = [entry.copy_of(), entry.copy_of().copy_of()]
        for digit, copy in enumerate(copies):
            copy.push(digit)
        self.assertEqual([copy.typed for copy in (entry, *copies)], [(2,), (2, 0), (2, 1)])

    def test_two_entries_with_one_rule(self):
        one, two = Entry(RULE), Entry(RULE)
        one.push(3)
        self.assertEqual((one.typed, two.typed), ((3,), ()))
        self.raises(NothingToUndo, two.undo)


class EqualityTest(unittest.TestCase):
    def alike(self, one, two):
        self.assertIs(one == two, True)
        self.assertIs(two == one, True)
        self.assertIs(one != two, False)

    def different(self, one, two):
        self.assertIs(one == two, False)
        self.assertIs(one != two, True)

    def test_equal_digits(self):
        self.alike(Entry(RULE), Entry(RULE))
        self.alike(entry_with(RULE, (2, 1)), entry_with(RULE, (2,), (1,)))
        self.alike(entry_with(RULE, (2, 1)), entry_with(Rule.weighted(10, 11, (12, 2, 3, -7)), (2, 1), ()))
        entry = entry_with(RULE, (2, 1), (5,))
        self.alike(entry, entry)
        self.alike(entry, entry.copy_of())
        entry.undo()
        self.alike(entry, entry_with(RULE, (2, 1)))

    def test_other_digits(self):
        for digits in ((), (2,), (2, 2), (2, 1, 0), (1, 2)):
            self.different(entry_with(RULE, (2, 1)), entry_with(RULE, digits))
            self.different(entry_with(RULE, digits), entry_with(RULE, (2, 1)))

    def test_other_rules(self):
        others = (
            Rule.weighted(10, 11, (1, 2, 3, 4), 1), Rule.weighted(10, 11, (2, 4, 6, 8)), Rule.weighted(9, 11, (1, 2, 3, 4)),
            Rule.weighted(10, 11, (1, 2, 3)), Rule.weighted(10, 11, (1, 2, 3, 4, 5)), ~RULE,
        )
        for other in others:
            for digits in ((), (2, 1)):
                self.different(entry_with(RULE, digits), entry_with(other, digits))
                self.different(entry_with(other, digits), entry_with(RULE, digits))

    def test_other_values(self):
        for value in (*OTHER_VALUES, *NO_INTEGERS, (2, 1), [2, 1], RULE, (RULE, (2, 1)), Entry, Comparing()):
            self.different(entry_with(RULE, (2, 1)), value)
            self.different(Entry(RULE), value)


class WrongArgumentsTest(RaisingCase):
    def test_no_rules(self):
        for value in (*OTHER_VALUES, RULE.rows, (RULE,), [RULE], Entry(RULE), Entry, Comparing()):
            self.raises(InvalidRule, Entry, value)
            self.raises(InvalidRule, Entry, rule=value)

    def test_by_name(self):
        self.assertEqual(Entry(rule=RULE), Entry(RULE))

    def test_properties_cannot_be_assigned(self):
        entry = entry_with(RULE, (2, 1))
        for name in ("typed", "sum_now", "rule"):
            with self.subTest(name), self.assertRaises(AttributeError):
                setattr(entry, name, ())

    def test_rules_are_unchanged(self):
        rule = Rule.weighted(10, 11, (1, 2, 3, 4))
        rows = rule.rows
        entry = entry_with(rule, (2, 1))
        state_of(entry)
        entry.undo()
        self.assertIs(entry.rule, rule)
        self.assertIs(rule.rows, rows)
        self.assertEqual(rule, RULE)


class ExampleTest(unittest.TestCase):
    def test_of_the_document(self):
        entry = Entry(Rule.weighted(10, 11, (1, 2, 3, 4)))
        seen = [entry.push(2, 1), entry.sum_now, entry.open_digits(), entry.ending()]
        self.assertEqual(seen, [2, 4, [1, 2, 3, 4, 5, 6, 7, 8, 9], (1, 1)])


if __name__ == "__main__":
    unittest.main()
