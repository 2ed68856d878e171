"""Fixing: several rules that together tell which digit of a code was changed."""

from checkdigits.checks import is_integer_within
from checkdigits.errors import InvalidRules
from checkdigits.rules import Rule, check_code

MOST_RULES = 3


def sums_of(rules, code):
    """The tuple of the sums of a code by the rules."""
    check_rules(rules)
    check_code(rules[0], code)
    return tuple([rule(code) for rule in rules])


def fixes(rules, code):
    """The ascending list of the places and new digits that make the code valid for all rules."""
    sums = sums_of(rules, code)
    needed = tuple([(rule.remainder - total) % rule.modulus for rule, total in zip(rules, sums)])
    found = []
    for place, old in enumerate(code):
        for new in range(rules[0].base):
            if new != old and _shift(rules, (place, old, new)) == needed:
                found.append((place, new))
    return found


def tells_changes(rules):
    """Whether every step changes some sum, and steps at different places change the sums differently."""
    return equal_steps(rules) is None


def equal_steps(rules):
    """One step that changes no sum, or two at different places with the same shift; or None."""
    check_rules(rules)
    step_by_shift = {}
    for place in range(len(rules[0])):
        for step in _steps_at(place, rules[0].base):
            shift = _shift(rules, step)
            if not any(shift):
                return (step,)
            earlier = step_by_shift.setdefault(shift, step)
            if earlier[0] < place:
                return earlier, step
    return None


def is_equal_steps(rules, value):
    """Whether any value could be the result of `equal_steps` where the rules do not tell changes."""
    check_rules(rules)
    if not isinstance(value, tuple) or not all([_is_step(rules[0], step) for step in value]):
        return False
    if len(value) == 1:
        return not any(_shift(rules, value[0]))
    if len(value) == 2:
        return value[0][0] < value[1][0] and _shift(rules, value[0]) == _shift(rules, value[1])
    return False


def check_rules(rules):
    if not _are_rules(rules):
        raise InvalidRules(f"this is no tuple of 1 to {MOST_RULES} rules with the same base and as many places")


def _are_rules(value):
    if not isinstance(value, tuple) or not 1 <= len(value) <= MOST_RULES:
        return False
    if not all([isinstance(rule, Rule) for rule in value]):
        return False
    first = value[0]
    return all([rule.base == first.base and len(rule) == len(first) for rule in value])


def _steps_at(place, base):
    return [(place, old, new) for old in range(base) for new in range(base) if old != new]


def _shift(rules, step):
    """What a step adds to the sum of each rule."""
    place, old, new = step
    return tuple([(rule.rows[place][new] - rule.rows[place][old]) % rule.modulus for rule in rules])


def _is_step(rule, value):
    if not isinstance(value, tuple) or len(value) != 3:
        return False
    place, old, new = value
    greatest = rule.base - 1
    return (
        is_integer_within(place, 0, len(rule) - 1)
        and is_integer_within(old, 0, greatest)
        and is_integer_within(new, 0, greatest)
        and old != new
    )
