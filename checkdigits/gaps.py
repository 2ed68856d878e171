"""Partial codes: valid codes of which some digits are not known."""

from checkdigits.checks import check_number, is_integer_within
from checkdigits.endings import choice_at, ending_tables
from checkdigits.errors import InvalidPartial, InvalidPlace, NoFilling
from checkdigits.rules import check_rule


def count_fillings(rule, partial):
    """The number of the fillings."""
    check_rule(rule)
    check_partial(rule, partial)
    tables = ending_tables(rule.modulus, _rows_left(rule, _digits_left(rule, partial)))
    return tables[0][rule.remainder]


def nth_filling(rule, partial, number):
    """The filling with a number in ascending order."""
    check_rule(rule)
    check_partial(rule, partial)
    digits_left = _digits_left(rule, partial)
    rows = _rows_left(rule, digits_left)
    tables = ending_tables(rule.modulus, rows)
    check_number(number, tables[0][rule.remainder])
    choice = choice_at(rows, tables, rule.remainder, number)
    return tuple([digits[index] for digits, index in zip(digits_left, choice)])


def digits_at(rule, partial, place):
    """The ascending list of the digits that the fillings have at a place."""
    check_rule(rule)
    check_partial(rule, partial)
    check_place(rule, place)
    return _digits_of_fillings(rule, partial)[place]


def sure_digits(rule, partial):
    """The partial code with all digits that the fillings have in common."""
    check_rule(rule)
    check_partial(rule, partial)
    by_place = _digits_of_fillings(rule, partial)
    if not by_place[0]:
        raise NoFilling("this partial code has no filling")
    return tuple([digits[0] if len(digits) == 1 else None for digits in by_place])


def check_partial(rule, partial):
    if not _is_partial(rule, partial):
        raise InvalidPartial(f"a partial code of this rule is a tuple of {len(rule)} digits and None")


def check_place(rule, place):
    if not is_integer_within(place, 0, len(rule) - 1):
        raise InvalidPlace(f"a place is an integer from 0 to {len(rule) - 1}")


def _is_partial(rule, value):
    if not isinstance(value, tuple) or len(value) != len(rule):
        return False
    return all([digit is None or is_integer_within(digit, 0, rule.base - 1) for digit in value])


def _digits_left(rule, partial):
    """For each place the ascending list of the digits that the partial code allows."""
    return [list(range(rule.base)) if digit is None else [digit] for digit in partial]


def _rows_left(rule, digits_left):
    """For each place the numbers of the digits that are left."""
    return [[row[digit] for digit in digits] for row, digits in zip(rule.rows, digits_left)]


def _digits_of_fillings(rule, partial):
    """For each place the ascending list of the digits that the fillings have there."""
    digits_left = _digits_left(rule, partial)
    rows = _rows_left(rule, digits_left)
    tables_behind = ending_tables(rule.modulus, rows)[1:]
    # Read backwards, the beginning in front of a place is an ending. The last table is that of all
    # places, which stand in front of none, so `zip` leaves it out.
    tables_before = ending_tables(rule.modulus, rows[::-1])[::-1]
    by_place = []
    for digits, row, before, behind in zip(digits_left, rows, tables_before, tables_behind):
        by_place.append([
            digit for digit, value in zip(digits, row) if _has_parts(before, behind, rule.remainder - value)
        ])
    return by_place


def _has_parts(before, behind, needed):
    """Whether some beginning and some ending have together the sum that is needed."""
    modulus = len(before)
    return any([many > 0 and behind[(needed - total) % modulus] > 0 for total, many in enumerate(before)])
