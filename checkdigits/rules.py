"""Rules: a table for each place, by which the digits of a code are summed up."""

from checkdigits.checks import check_base, check_modulus, check_remainder
from checkdigits.checks import is_base, is_integer, is_integer_within
from checkdigits.errors import InvalidCode, InvalidRows, InvalidRule, InvalidWeights


class Rule:
    """The rows of all places, and the remainder that the sum of a valid code has."""

    MOST_PLACES = 30

    def __init__(self, modulus, rows, remainder):
        check_modulus(modulus)
        check_rows(rows, modulus)
        check_remainder(remainder, modulus)
        self._modulus = modulus
        self._rows = rows
        self._remainder = remainder

    @classmethod
    def weighted(cls, base, modulus, weights, remainder=0):
        """The rule in which each digit counts as often as the weight of its place says."""
        check_base(base)
        check_modulus(modulus)
        check_weights(weights)
        rows = [_weighted_row(base, modulus, weight) for weight in weights]
        return cls(modulus, tuple(rows), remainder)

    @property
    def modulus(self):
        return self._modulus

    @property
    def rows(self):
        return self._rows

    @property
    def remainder(self):
        return self._remainder

    @property
    def base(self):
        return len(self._rows[0])

    def __len__(self):
        return len(self._rows)

    def __call__(self, code):
        """The sum of a code."""
        check_code(self, code)
        return sum_of_digits(self, code)

    def __contains__(self, value):
        """Whether any value is a valid code."""
        return _is_code(self, value) and sum_of_digits(self, value) == self._remainder

    def __invert__(self):
        """The rule for the codes that are read backwards."""
        return Rule(self._modulus, self._rows[::-1], self._remainder)

    def __eq__(self, other):
        return (
            isinstance(other, Rule)
            and self._modulus == other._modulus
            and self._rows == other._rows
            and self._remainder == other._remainder
        )


def check_rows(rows, modulus):
    if not _are_rows(rows, modulus):
        raise InvalidRows(f"rows are a tuple of 1 to {Rule.MOST_PLACES} rows that fit the modulus")


def check_weights(weights):
    if not fits_places(weights) or not all([is_integer(weight) for weight in weights]):
        raise InvalidWeights(f"weights are a tuple of 1 to {Rule.MOST_PLACES} integers")


def check_rule(rule):
    if not isinstance(rule, Rule):
        raise InvalidRule("this is not a rule")


def check_code(rule, code):
    if not _is_code(rule, code):
        raise InvalidCode(f"a code of this rule is a tuple of {len(rule)} digits of the base {rule.base}")


def fits_places(value):
    """Whether any value is a tuple with as many items as a rule can have places."""
    return isinstance(value, tuple) and 1 <= len(value) <= Rule.MOST_PLACES


def sum_of_digits(rule, digits):
    """The sum of a code, or of the digits with which a code begins."""
    return sum([row[digit] for row, digit in zip(rule.rows, digits)]) % rule.modulus


def _are_rows(value, modulus):
    if not fits_places(value) or not all([_is_row(row, modulus) for row in value]):
        return False
    base = len(value[0])
    return is_base(base) and all([len(row) == base for row in value])


def _is_row(value, modulus):
    return isinstance(value, tuple) and _all_within(value, modulus - 1)


def _is_code(rule, value):
    return isinstance(value, tuple) and len(value) == len(rule) and _all_within(value, rule.base - 1)


def _all_within(values, greatest):
    return all([is_integer_within(value, 0, greatest) for value in values])


def _weighted_row(base, modulus, weight):
    return tuple([weight * digit % modulus for digit in range(base)])
