"""Weights: how long codes can be if their slips are to be noticed, and the weights that notice them."""

from checkdigits.checks import check_base, check_modulus, check_reach, is_integer_within
from checkdigits.errors import InvalidPlaces, NoWeights
from checkdigits.rules import Rule
from checkdigits.slips import TWINS, unnoticed_kinds


def least_divisor(base, modulus):
    """The least divisor of the modulus for which the modulus divided by it is less than the base."""
    check_base(base)
    check_modulus(modulus)
    divisor = 1
    while modulus % divisor != 0 or modulus // divisor >= base:
        divisor += 1
    return divisor


def longest(base, modulus, *, twins=False):
    """The greatest number of places with weights that notice all changes and swaps (and twins)."""
    divisor = least_divisor(base, modulus)
    return divisor // 2 if twins else divisor - 1


def good_weights(base, modulus, places, reach, *, twins=False):
    """Weights that notice all changes, and the swaps (and twins) of places at most `reach` apart."""
    check_base(base)
    check_modulus(modulus)
    check_places(places)
    check_reach(reach)
    most = longest(base, modulus, twins=twins)
    # Places further apart than the reach may share a weight, so the weights can begin again behind it.
    different = min(places, reach + 1)
    if different > most:
        raise NoWeights(most)
    return tuple([place % different + 1 for place in range(places)])


def weak_kind(base, modulus, weights, reach, *, twins=False):
    """The least change, swap (or twins) with places at most `reach` apart that is not noticed, or None."""
    rule = Rule.weighted(base, modulus, weights)
    kinds = [kind for kind in unnoticed_kinds(rule, reach) if twins or kind[0] != TWINS]
    return kinds[0] if kinds else None


def check_places(places):
    if not is_integer_within(places, 1, Rule.MOST_PLACES):
        raise InvalidPlaces(f"a number of places is an integer from 1 to {Rule.MOST_PLACES}")
