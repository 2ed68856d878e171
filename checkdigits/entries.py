"""Entries: codes that are typed digit by digit."""

from checkdigits.checks import is_integer_within
from checkdigits.endings import choice_at, counts_by_index, ending_tables
from checkdigits.errors import Complete, InvalidDigit, NothingToUndo
from checkdigits.rules import check_rule, sum_of_digits


class Entry:
    """The first digits of a code of a rule, and what is needed to undo the calls of push."""

    def __init__(self, rule):
        check_rule(rule)
        self._rule = rule
        self._typed = ()
        # For each call of push that is not undone, how many digits were typed before it.
        self._lengths_before = []

    def push(self, *digits):
        """Type digits, all or none; the number of digits that are typed then."""
        check_digits(self._rule, digits)
        if len(self._typed) + len(digits) > len(self._rule):
            raise Complete(f"a code of this rule has {len(self._rule)} digits")
        self._lengths_before.append(len(self._typed))
        self._typed = self._typed + digits
        return len(self._typed)

    def undo(self):
        """Undo the last call of push that is not undone."""
        if not self._lengths_before:
            raise NothingToUndo("no call of push is left to be undone")
        length = self._lengths_before.pop()
        self._typed = self._typed[:length]

    def open_digits(self):
        """The ascending list of the digits with which the next place leaves the code a way to become valid."""
        if len(self._typed) == len(self._rule):
            return []
        rows = self._rows_left()
        table = ending_tables(self._rule.modulus, rows)[1]
        counts = counts_by_index(rows[0], table, self._sum_needed())
        return [digit for digit, many in enumerate(counts) if many > 0]

    def ending(self):
        """The least tuple of digits that makes the code complete and valid, or None."""
        rows = self._rows_left()
        tables = ending_tables(self._rule.modulus, rows)
        needed = self._sum_needed()
        if tables[0][needed] == 0:
            return None
        return tuple(choice_at(rows, tables, needed, 0))

    def copy_of(self):
        """An entry with the same rule, digits and calls to undo, that goes its own way from now on."""
        other = Entry(self._rule)
        other._typed = self._typed
        other._lengths_before = list(self._lengths_before)
        return other

    @property
    def typed(self):
        return self._typed

    @property
    def sum_now(self):
        return sum_of_digits(self._rule, self._typed)

    @property
    def rule(self):
        return self._rule

    def __len__(self):
        return len(self._typed)

    def __eq__(self, other):
        return isinstance(other, Entry) and self._rule == other._rule and self._typed == other._typed

    def _rows_left(self):
        return self._rule.rows[len(self._typed):]

    def _sum_needed(self):
        """The sum that the digits at the places that are left must have."""
        return (self._rule.remainder - self.sum_now) % self._rule.modulus


def check_digits(rule, digits):
    if not all([is_integer_within(digit, 0, rule.base - 1) for digit in digits]):
        raise InvalidDigit(f"a digit of this rule is an integer from 0 to {rule.base - 1}")
