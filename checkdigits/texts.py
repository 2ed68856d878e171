"""Texts: codes, partial codes and weighted rules, written as strings and read again."""

from checkdigits.checks import GREATEST_BASE, GREATEST_MODULUS, LEAST_BASE, LEAST_MODULUS
from checkdigits.checks import check_base, check_modulus, check_remainder, is_integer_within
from checkdigits.errors import InvalidCode, InvalidText
from checkdigits.rules import Rule, check_weights, fits_places
from checkdigits.signs import DIGIT_SIGNS, UNKNOWN_SIGN, digits_of, number_of, text_of

# The base, the modulus and the remainder stand in front of the weights.
WORDS_BEFORE_WEIGHTS = 3


def format_code(code):
    """The text of a code of any base."""
    if not fits_places(code) or not all([is_integer_within(digit, 0, GREATEST_BASE - 1) for digit in code]):
        raise InvalidCode(f"only a tuple of 1 to {Rule.MOST_PLACES} digits has a text")
    return text_of(code)


def parse_code(text, base):
    """The code with a text."""
    check_text(text)
    check_base(base)
    check_signs(text, DIGIT_SIGNS[:base])
    return digits_of(text)


def parse_partial(text, base):
    """The partial code with a text."""
    check_text(text)
    check_base(base)
    check_signs(text, DIGIT_SIGNS[:base] + UNKNOWN_SIGN)
    return digits_of(text)


def format_weights(base, modulus, weights, remainder):
    """The text of a weighted rule."""
    check_base(base)
    check_modulus(modulus)
    check_weights(weights)
    check_remainder(remainder, modulus)
    numbers = [base, modulus, remainder] + [weight % modulus for weight in weights]
    return " ".join([str(number) for number in numbers])


def parse_weights(text):
    """The weighted rule with a text."""
    check_text(text)
    numbers = []
    for index, word in enumerate(text.split(" ")):
        number = number_of(word)
        if not _can_follow(numbers, number):
            raise InvalidText(index)
        numbers.append(number)
    if len(numbers) <= WORDS_BEFORE_WEIGHTS:
        raise InvalidText(len(numbers))
    base, modulus, remainder, *weights = numbers
    return Rule.weighted(base, modulus, tuple(weights), remainder)


def check_text(text):
    if not isinstance(text, str):
        raise InvalidText()


def check_signs(text, signs):
    if not text:
        raise InvalidText(0)
    for index, sign in enumerate(text):
        if sign not in signs or index == Rule.MOST_PLACES:
            raise InvalidText(index)


def _can_follow(numbers, number):
    """Whether a number, or None for a word that is none, can stand behind the first numbers of a rule."""
    if len(numbers) == 0:
        return is_integer_within(number, LEAST_BASE, GREATEST_BASE)
    if len(numbers) == 1:
        return is_integer_within(number, LEAST_MODULUS, GREATEST_MODULUS)
    # The remainder and the weights have the same bounds.
    return len(numbers) < WORDS_BEFORE_WEIGHTS + Rule.MOST_PLACES and is_integer_within(number, 0, numbers[1] - 1)
