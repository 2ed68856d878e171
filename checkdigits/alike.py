"""Alike: whether the same codes are valid for two rules, and a code that tells them apart."""

from checkdigits.errors import NotAlike
from checkdigits.rules import check_rule


def same_codes(rule, other):
    """Whether the same codes are valid for two rules."""
    return telling_code(rule, other) is None


def telling_code(rule, other):
    """The least code that is valid for exactly one of two rules, or None."""
    check_rule(rule)
    check_rule(other)
    check_alike(rule, other)
    least_codes = _least_codes_by_sums(rule, other)
    for (total, total_of_other), code in least_codes.items():
        if (total == rule.remainder) != (total_of_other == other.remainder):
            return code
    return None


def check_alike(rule, other):
    if rule.base != other.base or len(rule) != len(other):
        raise NotAlike("the rules have codes with different bases or numbers of places")


def _least_codes_by_sums(rule, other):
    """For each pair of sums by the two rules the least code that has it, in ascending order of these codes."""
    beginnings = {(0, 0): ()}
    for row, row_of_other in zip(rule.rows, other.rows):
        steps = list(zip(row, row_of_other))
        beginnings = _one_digit_longer(beginnings, steps, rule.modulus, other.modulus)
    return beginnings


def _one_digit_longer(beginnings, steps, modulus, modulus_of_other):
    # Beginnings with the same sums can go on in the same ways, so the least of them is enough. They are
    # gone through in ascending order, so the first one that has some sums is the least one.
    longer = {}
    for (total, total_of_other), digits in beginnings.items():
        for digit, (step, step_of_other) in enumerate(steps):
            sums = ((total + step) % modulus, (total_of_other + step_of_other) % modulus_of_other)
            if sums not in longer:
                longer[sums] = digits + (digit,)
    return longer
