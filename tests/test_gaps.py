"""[11] Gaps: the fillings of partial codes, their numbers, the digits that they have."""

import unittest
from itertools import product

from checkdigits.counting import count_valid, nth_valid
from checkdigits.errors import InvalidNumber, InvalidPartial, InvalidPlace, InvalidRule, NoFilling
from checkdigits.gaps import count_fillings, digits_at, nth_filling, sure_digits
from checkdigits.rules import Rule
from tests.samples import NO_INTEGERS, OTHER_VALUES, RaisingCase, no_codes
from tests.samples import all_codes, large_rules, plain_sum, small_rules, valid_codes

RULE = Rule.weighted(10, 11, (1, 2, 3, 4))
NOTHING_KNOWN = (None,) * 4
# Rules and partial codes of them that no valid code fills.
WITHOUT_FILLING = (
    (RULE, (2, 1, 1, 2)),
    (Rule.weighted(10, 11, (1, 2)), (2, None)),
    (Rule.weighted(10, 10, (2, 4, 6), 1), (None, None, None)),
    (Rule.weighted(10, 10, (2, 4, 6), 1), (3, None, 9)),
    (Rule(2, ((1, 1), (1, 1)), 1), (None, 0)),
    (Rule.weighted(36, 200, (10,) * 30, 5), (None,) * 30),
    (Rule.weighted(36, 200, (10,) * 30, 0), (1,) + (0,) * 29),
)


def fits(partial, code):
    return all(known is None or known == digit for known, digit in zip(partial, code))


def partials_of(rule):
    """Partial codes with no, some and all digits known; some of them known from valid codes."""
    codes = all_codes(rule)
    masks = list(product((True, False), repeat=len(rule)))
    # Of the many partial codes of long rules some will do.
    masks = [*masks[:: max(1, len(masks) // 30)], masks[-1]]
    found = {}
    for number, mask in enumerate(masks):
        for code in (codes[number * 7919 % len(codes)], codes[-1], *valid_codes(rule)[:1]):
            found[tuple(digit if known else None for digit, known in zip(code, mask))] = True
    return list(found)


class SmallRulesTest(RaisingCase):
    """Everything against going through all codes."""

    def each(self):
        for rule in small_rules():
            valid = valid_codes(rule)
            for partial in partials_of(rule):
                yield rule, partial, [code for code in valid if fits(partial, code)]

    def test_count(self):
        for rule, partial, fillings in self.each():
            self.assertEqual(count_fillings(rule, partial), len(fillings), partial)

    def test_numbers(self):
        for rule, partial, fillings in self.each():
            many = len(fillings)
            for number in sorted({*range(min(12, many)), *range(0, many, 41), *range(many)[-3:]}):
                self.assertEqual(nth_filling(rule, partial, number), fillings[number])
            for number in (-1, many, many + 1, -many - 1):
                self.raises(InvalidNumber, nth_filling, rule, partial, number)

    def test_digits_at_all_places(self):
        for rule, partial, fillings in self.each():
            for place in range(len(rule)):
                digits = sorted({code[place] for code in fillings})
                self.assertEqual(digits_at(rule, partial, place), digits, (partial, place))

    def test_sure_digits(self):
        for rule, partial, fillings in self.each():
            if fillings:
                columns = [sorted(set(column)) for column in zip(*fillings)]
                sure = tuple(column[0] if len(column) == 1 else None for column in columns)
                self.assertEqual(sure_digits(rule, partial), sure, partial)
            else:
                self.raises(NoFilling, sure_digits, rule, partial)

    def test_the_samples_hold_what_they_should(self):
        many = [len(fillings) for _, _, fillings in self.each()]
        self.assertTrue({0, 1, 2} < set(many))
        known = [len(partial) - partial.count(None) for _, partial, _ in self.each()]
        self.assertIn(0, known)
        for rule in small_rules():
            left = {partial.count(None) for partial in partials_of(rule)}
            self.assertTrue({0, len(rule)} <= left)

    def test_all_codes_as_partial_codes(self):
        for rule in (Rule.weighted(10, 10, (1, 3, 1), 7), Rule(5, ((0, 1, 4), (0, 0, 0), (4, 2, 2)), 3)):
            for code in all_codes(rule):
                self.assertEqual(count_fillings(rule, code), int(plain_sum(rule, code) == rule.remainder))


class ResultsTest(RaisingCase):
    def test_values(self):
        self.assertIs(count_fillings(RULE, NOTHING_KNOWN).__class__, int)
        self.assertIs(nth_filling(RULE, NOTHING_KNOWN, 5).__class__, tuple)
        self.assertIs(digits_at(RULE, NOTHING_KNOWN, 2).__class__, list)
        self.assertIs(sure_digits(RULE, NOTHING_KNOWN).__class__, tuple)

    def test_nothing_known_is_counting(self):
        self.assertEqual(count_fillings(RULE, NOTHING_KNOWN), count_valid(RULE))
        for number in range(0, 909, 13):
            self.assertEqual(nth_filling(RULE, NOTHING_KNOWN, number), nth_valid(RULE, number))

    def test_all_known(self):
        self.assertEqual(count_fillings(RULE, (2, 1, 1, 1)), 1)
        self.assertEqual(nth_filling(RULE, (2, 1, 1, 1), 0), (2, 1, 1, 1))
        self.assertEqual([digits_at(RULE, (2, 1, 1, 1), place) for place in range(4)], [[2], [1], [1], [1]])
        self.assertEqual(sure_digits(RULE, (2, 1, 1, 1)), (2, 1, 1, 1))

    def test_digits_that_stay_unknown(self):
        rule = Rule.weighted(10, 10, (2, 1, 0))
        self.assertEqual(sure_digits(rule, (3, None, None)), (3, 4, None))
        self.assertEqual(digits_at(rule, (None, 4, 8), 0), [3, 8])
        self.assertEqual(sure_digits(rule, (None, 4, 8)), (None, 4, 8))

    def test_sure_digits_that_no_place_tells_alone(self):
        # 1 is the only digit for the first place, though three are free.
        rule = Rule(7, ((0, 3, 6), (0, 1, 1), (0, 0, 0)), 4)
        self.assertEqual(sure_digits(rule, (None, None, None)), (1, None, None))
        self.assertEqual(digits_at(rule, (None, None, None), 1), [1, 2])

    def test_no_filling(self):
        for rule, partial in WITHOUT_FILLING:
            self.assertEqual(count_fillings(rule, partial), 0)
            for number in (-1, 0, 1):
                self.raises(InvalidNumber, nth_filling, rule, partial, number)
            for place in range(len(rule)):
                self.assertEqual(digits_at(rule, partial, place), [])
            self.raises(NoFilling, sure_digits, rule, partial)


class LargeRulesTest(RaisingCase):
    """30 places, also with base 36 and modulus 200."""

    def partials(self):
        for rule in large_rules():
            digits = nth_valid(rule, count_valid(rule) // 3)
            for step in (2, 3, 29):
                yield rule, tuple(None if place % step == 0 else digits[place] for place in range(30))

    def test_nothing_known(self):
        for rule in large_rules():
            nothing = (None,) * 30
            many = count_valid(rule)
            self.assertEqual(count_fillings(rule, nothing), many)
            for number in (0, many // 7, many - 1):
                self.assertEqual(nth_filling(rule, nothing, number), nth_valid(rule, number))
            for number in (-1, many):
                self.raises(InvalidNumber, nth_filling, rule, nothing, number)

    def test_counts_add_up(self):
        for rule, partial in self.partials():
            place = partial.index(None)
            parts = [
                count_fillings(rule, partial[:place] + (digit,) + partial[place + 1:]) for digit in range(rule.base)
            ]
            self.assertEqual(count_fillings(rule, partial), sum(parts))
            self.assertEqual(digits_at(rule, partial, place), [digit for digit, many in enumerate(parts) if many])
            first = 0
            for digit, many in enumerate(parts):
                if many:
                    self.assertEqual(nth_filling(rule, partial, first)[place], digit)
                    self.assertEqual(nth_filling(rule, partial, first + many - 1)[place], digit)
                first += many

    def test_numbers_ascend(self):
        for rule, partial in self.partials():
            many = count_fillings(rule, partial)
            numbers = sorted({0, many // 3, many // 2, many - 1})
            codes = [nth_filling(rule, partial, number) for number in numbers]
            self.assertEqual(codes, sorted(set(codes)))
            for code in codes:
                self.assertTrue(fits(partial, code) and plain_sum(rule, code) == rule.remainder)

    def test_two_gaps(self):
        for rule in large_rules():
            code = nth_valid(rule, count_valid(rule) // 11)
            partial = code[:7] + (None,) + code[8:29] + (None,)
            pairs = product(range(rule.base), repeat=2)
            codes = [code[:7] + (one,) + code[8:29] + (two,) for one, two in pairs]
            fillings = [other for other in codes if plain_sum(rule, other) == rule.remainder]
            many = len(fillings)
            self.assertEqual(count_fillings(rule, partial), many)
            self.assertEqual([nth_filling(rule, partial, number) for number in range(many)], fillings)
            self.raises(InvalidNumber, nth_filling, rule, partial, many)
            for place in (0, 7, 8, 29):
                digits = sorted({other[place] for other in fillings})
                self.assertEqual(digits_at(rule, partial, place), digits)
                self.assertEqual(sure_digits(rule, partial)[place], digits[0] if len(digits) == 1 else None)

    def test_one_gap(self):
        rule = Rule.weighted(36, 200, (3,) * 30, 123)
        code = nth_valid(rule, count_valid(rule) // 2)
        for place in (0, 13, 29):
            partial = code[:place] + (None,) + code[place + 1:]
            self.assertEqual(count_fillings(rule, partial), 1)
            self.assertEqual(sure_digits(rule, partial), code)


def no_partials(rule):
    """Values that are no partial codes; None is a digit that is not known, so it is not wrong there."""
    codes = [value for value in no_codes(rule) if not (isinstance(value, tuple) and None in value)]
    nothing = (None,) * len(rule)
    return [
        *codes,
        nothing[1:],
        nothing + (None,),
        nothing * 2 + (None,),
        list(nothing),
        {place: None for place in range(len(rule))},
        nothing[1:] + (rule.base,),
        (rule.base,) + nothing[1:],
        (-1,) + nothing[1:],
        nothing[1:] + (10**59,),
        nothing[1:] + (True,),
        (False,) + nothing[1:],
        nothing[1:] + ("?",),
        nothing[1:] + ("",),
        nothing[1:] + ((),),
        (nothing,),
        (nothing,) * len(rule),
        "?" * len(rule),
    ]


class WrongArgumentsTest(RaisingCase):
    def test_no_rules(self):
        for value in (*OTHER_VALUES, RULE.rows, (RULE,), [RULE]):
            self.raises(InvalidRule, count_fillings, value, NOTHING_KNOWN)
            self.raises(InvalidRule, nth_filling, value, NOTHING_KNOWN, 0)
            self.raises(InvalidRule, digits_at, value, NOTHING_KNOWN, 0)
            self.raises(InvalidRule, sure_digits, value, NOTHING_KNOWN)

    def test_no_partial_codes(self):
        for rule in [*small_rules()[:7], *large_rules()[:2]]:
            for value in no_partials(rule):
                self.raises(InvalidPartial, count_fillings, rule, value)
                self.raises(InvalidPartial, nth_filling, rule, value, 0)
                self.raises(InvalidPartial, digits_at, rule, value, 0)
                self.raises(InvalidPartial, sure_digits, rule, value)

    def test_wrong_numbers(self):
        for number in (*NO_INTEGERS, -1, 909, 910, 10**59, -(10**59)):
            self.raises(InvalidNumber, nth_filling, RULE, NOTHING_KNOWN, number)
        for number in (*NO_INTEGERS, -1, 1):
            self.raises(InvalidNumber, nth_filling, RULE, (2, 1, 1, None), number)
        self.assertEqual(nth_filling(RULE, (2, 1, 1, None), 0), (2, 1, 1, 1))

    def test_wrong_places(self):
        for rule in (RULE, *small_rules()[5:7], large_rules()[0]):
            nothing = (None,) * len(rule)
            for place in (*NO_INTEGERS, -1, -len(rule), len(rule), len(rule) + 1, 10**59, -(10**59)):
                self.raises(InvalidPlace, digits_at, rule, nothing, place)
        self.raises(InvalidPlace, digits_at, RULE, (2, 1, 1, 2), 4)

    def test_several_at_once(self):
        for function in (count_fillings, sure_digits):
            self.raises(InvalidRule, function, None, None)
            self.raises(InvalidRule, function, partial=[], rule=0)
        for function, last in ((nth_filling, "number"), (digits_at, "place")):
            self.raises(InvalidRule, function, None, None, None)
            self.raises(InvalidPartial, function, RULE, None, None)
            self.raises(InvalidRule, function, **{last: -1, "partial": NOTHING_KNOWN, "rule": ()})
            self.raises(InvalidPartial, function, **{last: -1, "partial": list(NOTHING_KNOWN), "rule": RULE})


class CallsTest(RaisingCase):
    """[2]: by position and by name, twice, with arguments that stay as they are."""

    def test_by_name(self):
        partial = (1, None, 1, None)
        self.assertEqual(count_fillings(partial=partial, rule=RULE), 9)
        self.assertEqual(nth_filling(number=0, partial=partial, rule=RULE), (1, 1, 1, 4))
        self.assertEqual(digits_at(place=0, partial=partial, rule=RULE), [1])
        self.assertEqual(sure_digits(partial=partial, rule=RULE), partial)

    def test_a_list_that_the_caller_changes(self):
        for partial, place in ((NOTHING_KNOWN, 1), ((1, None, 1, None), 3), ((2, 1, 1, 1), 0)):
            digits = digits_at(RULE, partial, place)
            seen = list(digits)
            digits.append(77)
            digits[0] = 78
            again = digits_at(RULE, partial, place)
            self.assertEqual(again, seen)
            self.assertIsNot(again, digits_at(RULE, partial, place))

    def test_arguments_are_unchanged(self):
        rule = Rule.weighted(10, 11, (1, 2, 3, 4))
        rows = rule.rows
        partial = [None, 1, None, 1]
        for value in (tuple(partial), partial):
            for _ in range(2):
                for call in (count_fillings, sure_digits):
                    self.assertEqual(call(rule, tuple(partial)), call(rule, tuple(partial)))
                self.raises(InvalidPartial, count_fillings, rule, partial)
                self.raises(InvalidPartial, nth_filling, rule, partial, 0)
                self.raises(InvalidNumber, nth_filling, rule, tuple(partial), partial)
                self.raises(InvalidPlace, digits_at, rule, tuple(partial), partial)
        self.raises(NoFilling, sure_digits, rule, (2, 1, 1, 2))
        self.assertEqual(partial, [None, 1, None, 1])
        self.assertIs(rule.rows, rows)
        self.assertEqual(rule, RULE)


class ExampleTest(unittest.TestCase):
    def test_of_the_document(self):
        partial = (1, None, 1, None)
        seen = [count_fillings(RULE, partial), nth_filling(RULE, partial, 0), digits_at(RULE, partial, 3)]
        self.assertEqual(seen, [9, (1, 1, 1, 4), [0, 1, 2, 3, 4, 6, 7, 8, 9]])

    def test_of_the_document_for_sure_digits(self):
        seen = [sure_digits(RULE, (2, 1, 1, None)), digits_at(RULE, (2, 1, 1, None), 0)]
        self.assertEqual(seen, [(2, 1, 1, 1), [2]])


if __name__ == "__main__":
    unittest.main()
