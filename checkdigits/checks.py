"""Tests and checks of the plain numbers that several modules take."""

from checkdigits.errors import InvalidBase, InvalidModulus, InvalidNumber, InvalidReach, InvalidRemainder

LEAST_BASE = 2
GREATEST_BASE = 36
LEAST_MODULUS = 2
GREATEST_MODULUS = 200


def is_integer(value):
    # Python counts True and False among the integers, the document does not.
    return isinstance(value, int) and not isinstance(value, bool)


def is_integer_within(value, least, greatest):
    return is_integer(value) and least <= value <= greatest


def is_base(value):
    return is_integer_within(value, LEAST_BASE, GREATEST_BASE)


def check_base(base):
    if not is_base(base):
        raise InvalidBase(f"a base is an integer from {LEAST_BASE} to {GREATEST_BASE}")


def check_modulus(modulus):
    if not is_integer_within(modulus, LEAST_MODULUS, GREATEST_MODULUS):
        raise InvalidModulus(f"a modulus is an integer from {LEAST_MODULUS} to {GREATEST_MODULUS}")


def check_remainder(remainder, modulus):
    if not is_integer_within(remainder, 0, modulus - 1):
        raise InvalidRemainder(f"a remainder is an integer from 0 to {modulus - 1}")


def check_number(number, many):
    if not is_integer_within(number, 0, many - 1):
        raise InvalidNumber(f"of {many} codes, none has this number")


def check_reach(reach):
    if not is_integer(reach) or reach < 0:
        raise InvalidReach("a reach is an integer of at least 0")
