"""The valid codes of a rule in ascending order: how many there are, and which has which number."""

from checkdigits.checks import is_integer_within
from checkdigits.errors import InvalidNumber, NotValid
from checkdigits.rules import check_code, check_rule


def count_valid(rule):
    """The number of valid codes."""
    check_rule(rule)
    return _count_all(rule, _ending_tables(rule))


def nth_valid(rule, number):
    """The valid code with a number in ascending order."""
    check_rule(rule)
    tables = _ending_tables(rule)
    if not is_integer_within(number, 0, _count_all(rule, tables) - 1):
        raise InvalidNumber("no valid code has this number")
    return _code_at(rule, tables, number)


def valid_number(rule, code):
    """The number of a valid code in ascending order."""
    check_rule(rule)
    check_code(rule, code)
    if code not in rule:
        raise NotValid("only a valid code has a number")
    return _count_less(rule, _ending_tables(rule), code)


def count_below(rule, code):
    """The number of valid codes that are less than a code."""
    check_rule(rule)
    check_code(rule, code)
    return _count_less(rule, _ending_tables(rule), code)


def next_valid(rule, code):
    """The least valid code that is not less than a code, or None."""
    check_rule(rule)
    check_code(rule, code)
    tables = _ending_tables(rule)
    number = _count_less(rule, tables, code)
    if number == _count_all(rule, tables):
        return None
    return _code_at(rule, tables, number)


def _ending_tables(rule):
    """For each place, and for the end, how many endings from there on have each sum."""
    tables = [[1] + [0] * (rule.modulus - 1)]
    for row in rule.rows[::-1]:
        tables.append(_table_before(rule.modulus, row, tables[-1]))
    return tables[::-1]


def _table_before(modulus, row, table):
    """The table of endings that begin one place before those of a table."""
    before = [0] * modulus
    for value in row:
        for ending_sum, many in enumerate(table):
            before[(value + ending_sum) % modulus] += many
    return before


def _count_all(rule, tables):
    return tables[0][rule.remainder]


def _counts_by_digit(rule, row, table, needed):
    """For each digit at a place, how many endings behind it complete the sum that is needed."""
    return [table[(needed - value) % rule.modulus] for value in row]


def _code_at(rule, tables, number):
    digits = []
    needed = rule.remainder
    for row, table in zip(rule.rows, tables[1:]):
        digit, number = _digit_at(_counts_by_digit(rule, row, table, needed), number)
        digits.append(digit)
        needed = (needed - row[digit]) % rule.modulus
    return tuple(digits)


def _digit_at(counts, number):
    """The digit under which the ending with a number falls, and its number among those."""
    digit = 0
    while number >= counts[digit]:
        number -= counts[digit]
        digit += 1
    return digit, number


def _count_less(rule, tables, code):
    less = 0
    needed = rule.remainder
    for row, table, digit in zip(rule.rows, tables[1:], code):
        less += sum(_counts_by_digit(rule, row, table, needed)[:digit])
        needed = (needed - row[digit]) % rule.modulus
    return less
