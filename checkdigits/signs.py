"""How digits and integers are written: one sign for each digit, and decimal digits for integers."""

DIGIT_SIGNS = "0123456789abcdefghijklmnopqrstuvwxyz"
# It stands for a digit that is not known, and for what does not exist.
UNKNOWN_SIGN = "?"
MOST_DECIMALS = 60


def sign_of(digit):
    """The sign of a digit, or of None."""
    return UNKNOWN_SIGN if digit is None else DIGIT_SIGNS[digit]


def text_of(digits):
    """The text of digits, of which some may be None."""
    return "".join([sign_of(digit) for digit in digits])


def digits_of(text):
    """The tuple of the digits, and None, that a text of their signs stands for."""
    return tuple([None if sign == UNKNOWN_SIGN else DIGIT_SIGNS.index(sign) for sign in text])


def number_of(word):
    """The integer that is written in decimal digits without leading zeros, or None for another word."""
    # Other writings have digits, too, so `isdigit` alone does not tell 0 to 9.
    if not word.isascii() or not word.isdigit() or len(word) > MOST_DECIMALS:
        return None
    if word[0] == "0" and len(word) > 1:
        return None
    return int(word)
