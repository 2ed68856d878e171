"""The valid codes of a rule in ascending order: how many there are, and which has which number."""

from checkdigits.checks import check_number
from checkdigits.endings import choice_at, counts_by_index, ending_tables
from checkdigits.errors import NotValid
from checkdigits.rules import check_code, check_rule


def count_valid(rule):
    """The number of valid codes."""
    check_rule(rule)
    return _count_all(rule, _tables_of(rule))


def nth_valid(rule, number):
    """The valid code with a number in ascending order."""
    check_rule(rule)
    tables = _tables_of(rule)
    check_number(number, _count_all(rule, tables))
    return _code_at(rule, tables, number)


def valid_number(rule, code):
    """The number of a valid code in ascending order."""
    check_rule(rule)
    check_code(rule, code)
    if code not in rule:
        raise NotValid("only a valid code has a number")
    return _count_less(rule, _tables_of(rule), code)


def count_below(rule, code):
    """The number of valid codes that are less than a code."""
    check_rule(rule)
    check_code(rule, code)
    return _count_less(rule, _tables_of(rule), code)


def next_valid(rule, code):
    """The least valid code that is not less than a code, or None."""
    check_rule(rule)
    check_code(rule, code)
    tables = _tables_of(rule)
    number = _count_less(rule, tables, code)
    if number == _count_all(rule, tables):
        return None
    return _code_at(rule, tables, number)


def _tables_of(rule):
    return ending_tables(rule.modulus, rule.rows)


def _count_all(rule, tables):
    return tables[0][rule.remainder]


def _code_at(rule, tables, number):
    # Where every digit may stand, the indexes of a row are the digits.
    return tuple(choice_at(rule.rows, tables, rule.remainder, number))


def _count_less(rule, tables, code):
    less = 0
    needed = rule.remainder
    for row, table, digit in zip(rule.rows, tables[1:], code):
        less += sum(counts_by_index(row, table, needed)[:digit])
        needed = (needed - row[digit]) % rule.modulus
    return less
