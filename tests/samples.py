"""Values that several tests share, and the definitions of the document, written out plainly."""

import unittest
from itertools import product

from checkdigits.rules import Rule

OTHER_VALUES = (
    None, True, False, -1, 0, 1, 7, 10**59, "", "1234", "\u0661\u00e9%", b"", b"\x01\x02", (), [], {}, set(),
    (1, 2, 3, 4), [1, 2, 3, 4], ((0, 1), (0, 1)), {1: 2}, {1, 2}, frozenset([1]), range(4), object(), int, Rule, len,
)

NO_INTEGERS = (None, True, False, "", "3", b"3", (), (3,), [], [3], {}, {3: 3}, {3}, object(), int, 3.0)


def rule_by_formula(base, modulus, places, remainder, spread):
    """A rule whose rows are no weighted ones; some digits of a row share their number."""
    rows = tuple(
        tuple((spread * place * digit + digit * digit // 2 + place * 7) % modulus for digit in range(base))
        for place in range(places)
    )
    return Rule(modulus, rows, remainder)


def small_rules():
    """Rules with so few codes that a test can go through all of them."""
    return [
        Rule.weighted(10, 11, (1, 2, 3, 4)),
        Rule.weighted(10, 10, (1, 3, 1), 7),
        Rule.weighted(10, 97, (10, 1, -3), 96),
        Rule.weighted(10, 3, (1, 2, 6), 1),
        Rule.weighted(10, 10, (2, 4, 6), 1),
        Rule.weighted(2, 2, (1,), 0),
        Rule.weighted(2, 2, (0,), 1),
        Rule.weighted(2, 200, (1, 2, 4, 8, 16, 32, 64, 128), 199),
        Rule.weighted(36, 200, (5, 7), 12),
        Rule.weighted(36, 2, (1, 1), 1),
        Rule.weighted(2, 7, (1, 2, 3, 4, 5, 6, 0, -1, 8), 5),
        Rule(5, ((0, 1, 4), (0, 0, 0), (4, 2, 2)), 3),
        Rule(200, ((0, 199),), 199),
        Rule(2, ((1,) * 36,), 1),
        Rule(2, ((1,) * 36,), 0),
        rule_by_formula(3, 13, 6, 4, 3),
        rule_by_formula(7, 12, 3, 0, 5),
        rule_by_formula(4, 200, 5, 150, 11),
    ]


def large_rules():
    """Rules with 30 places."""
    return [
        Rule.weighted(36, 200, tuple(range(1, 31)), 123),
        Rule.weighted(10, 97, tuple(pow(10, place, 97) for place in range(30)), 1),
        Rule.weighted(2, 2, (1,) * 30, 1),
        rule_by_formula(36, 200, 30, 199, 7),
        rule_by_formula(2, 200, 30, 0, 13),
    ]


def all_codes(rule):
    """All codes as long as those of a rule, in ascending order."""
    return list(product(range(rule.base), repeat=len(rule)))


def plain_sum(rule, code):
    total = 0
    for place in range(len(code)):
        total += rule.rows[place][code[place]]
    return total % rule.modulus


def valid_codes(rule):
    return [code for code in all_codes(rule) if plain_sum(rule, code) == rule.remainder]


def all_kinds(rule):
    """All kinds of slips of a rule, in ascending order."""
    places = range(len(rule))
    pairs = [(i, j) for i in places for j in places if i < j]
    return sorted([
        *[("change", i) for i in places],
        *[("swap", i, j) for i, j in pairs],
        *[("twins", i, j) for i, j in pairs],
    ])


def no_codes(rule):
    """Values that are nearly codes of a rule, or not at all; `rule` has at least one place."""
    zeros = (0,) * len(rule)
    return [
        *OTHER_VALUES_WITHOUT_CODES,
        zeros[1:],
        zeros + (0,),
        zeros + zeros,
        list(zeros),
        "0" * len(rule),
        bytes(len(rule)),
        range(len(rule)),
        {place: 0 for place in range(len(rule))},
        zeros[1:] + (rule.base,),
        (rule.base,) + zeros[1:],
        (-1,) + zeros[1:],
        zeros[1:] + (10**59,),
        zeros[1:] + (-(10**59),),
        zeros[1:] + (True,),
        (False,) + zeros[1:],
        zeros[1:] + (None,),
        zeros[1:] + ("0",),
        ("",) + zeros[1:],
        zeros[1:] + ((0,),),
        zeros[1:] + ([0],),
        (zeros,),
        (zeros,) * len(rule),
    ]


# (1, 2, 3, 4) is a code of some rules, so each test names it itself.
OTHER_VALUES_WITHOUT_CODES = tuple(value for value in OTHER_VALUES if value != (1, 2, 3, 4))


def error_of(function, /, *values, **named):
    """The error that a call raises, or None."""
    try:
        function(*values, **named)
    except Exception as error:
        return error
    return None


class RaisingCase(unittest.TestCase):
    # The names in front of / are free for the arguments of the call.
    def raises(self, error, function, /, *values, **named):
        self.assertIs(type(error_of(function, *values, **named)), error, (function, values, named))


class Comparing:
    """A value that says of itself that it equals everything."""

    def __eq__(self, other):
        return True
