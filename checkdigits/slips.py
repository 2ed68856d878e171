"""Slips: which errors in writing a code a rule notices, and how many it does not notice."""

from checkdigits.checks import check_reach, is_integer_within
from checkdigits.endings import ending_tables
from checkdigits.errors import InvalidKind
from checkdigits.rules import check_rule

CHANGE = "change"
SWAP = "swap"
TWINS = "twins"


def unnoticed(rule, kind):
    """The least pair of digits with which a slip of the kind leaves the sum as it is, or None."""
    check_rule(rule)
    check_kind(rule, kind)
    return _least_equal_pair(_marks(rule, kind))


def notices(rule, kind):
    """Whether every slip of the kind changes the sum of every code."""
    return unnoticed(rule, kind) is None


def unnoticed_kinds(rule, reach):
    """The ascending list of the kinds, with places at most `reach` apart, that the rule does not notice."""
    check_rule(rule)
    check_reach(reach)
    return [kind for kind in _kinds_within(len(rule), reach) if not notices(rule, kind)]


def count_slips(rule, kind):
    """How many slips of the kind the valid codes can suffer, and how many of these lead to a valid code."""
    check_rule(rule)
    check_kind(rule, kind)
    table = _table_of_other_places(rule, kind)
    marks = _marks(rule, kind)
    slips = 0
    missed = 0
    for digit in range(rule.base):
        for other in range(rule.base):
            if digit != other:
                many = table[(rule.remainder - _sum_before_slip(rule, kind, digit, other)) % rule.modulus]
                slips += many
                missed += many if marks[digit] == marks[other] else 0
    return slips, missed


def check_kind(rule, kind):
    if not _is_kind(rule, kind):
        raise InvalidKind("this is not a kind of slips of this rule")


def _is_kind(rule, value):
    if not isinstance(value, tuple) or len(value) not in (2, 3) or not isinstance(value[0], str):
        return False
    places = value[1:]
    if not all([is_integer_within(place, 0, len(rule) - 1) for place in places]):
        return False
    if len(places) == 1:
        return value[0] == CHANGE
    return value[0] in (SWAP, TWINS) and places[0] < places[1]


def _kinds_within(places, reach):
    """All kinds with places at most `reach` apart, in ascending order."""
    pairs = [(i, j) for i in range(places) for j in range(i + 1, min(places, i + reach + 1))]
    kinds = [(CHANGE, i) for i in range(places)]
    kinds.extend([(SWAP, i, j) for i, j in pairs])
    kinds.extend([(TWINS, i, j) for i, j in pairs])
    return kinds


def _marks(rule, kind):
    """For each digit a number; a pair of digits is unnoticed exactly if its numbers are equal."""
    row = rule.rows[kind[1]]
    if kind[0] == CHANGE:
        return list(row)
    row_of_other = rule.rows[kind[2]]
    if kind[0] == SWAP:
        # row i [a] + row j [b] = row i [b] + row j [a] has on each side one digit alone if it is written
        # row i [a] - row j [a] = row i [b] - row j [b].
        return [(value - other) % rule.modulus for value, other in zip(row, row_of_other)]
    return [(value + other) % rule.modulus for value, other in zip(row, row_of_other)]


def _least_equal_pair(marks):
    for digit, mark in enumerate(marks):
        if mark in marks[digit + 1:]:
            return digit, marks.index(mark, digit + 1)
    return None


def _table_of_other_places(rule, kind):
    """For each sum, how often the digits at the places that are not of the kind have it."""
    rows = [row for place, row in enumerate(rule.rows) if place not in kind[1:]]
    return ending_tables(rule.modulus, rows)[0]


def _sum_before_slip(rule, kind, digit, other):
    """The sum at the places of the kind before a slip that puts `other` where `digit` stands first."""
    total = rule.rows[kind[1]][digit]
    if kind[0] == SWAP:
        total += rule.rows[kind[2]][other]
    if kind[0] == TWINS:
        total += rule.rows[kind[2]][digit]
    return total
