"""The console: lines of text that begin an entry, change it, and ask about it and its rule."""

from checkdigits.counting import count_valid, next_valid, nth_valid
from checkdigits.entries import Entry
from checkdigits.errors import InvalidCommand, InvalidText
from checkdigits.fixing import fixes
from checkdigits.gaps import count_fillings, sure_digits
from checkdigits.signs import UNKNOWN_SIGN, number_of, sign_of, text_of
from checkdigits.slips import unnoticed_kinds
from checkdigits.texts import parse_code, parse_partial, parse_weights

BEGIN = "rule"
DONE = "ok"
NOTHING = "."


class Console:
    """An entry, or none yet, and the lines that begin, change and ask it."""

    def __init__(self):
        self._entry = None

    def execute(self, line):
        """Do what a line says; its answer."""
        words = _words_of(line)
        try:
            if words[0] == BEGIN:
                self._entry = Entry(parse_weights(" ".join(words[1:])))
                return DONE
            return _answer(self._entry, words)
        except InvalidText:
            # What follows the first word decides whether this is a line at all.
            raise InvalidCommand("what follows the first word has a wrong form") from None


def _words_of(line):
    if not isinstance(line, str):
        raise InvalidCommand("a line is a string")
    return line.split(" ")


def _answer(entry, words):
    if entry is None:
        raise InvalidCommand(f"the first line begins with {BEGIN}")
    word = words[0]
    if word in SINGLE_WORDS and len(words) == 1:
        answer = SINGLE_WORDS[word]
        return answer(entry)
    if word in WORDS_BEFORE_TEXT and len(words) == 2:
        return _answer_with_text(entry, word, words[1])
    raise InvalidCommand("there is no such line")


def _answer_with_text(entry, word, text):
    answer = WORDS_BEFORE_TEXT[word]
    return answer(entry, text)


def _do_count(entry):
    return str(count_valid(entry.rule))


def _do_undo(entry):
    entry.undo()
    return DONE


def _do_open(entry):
    return _text_or_nothing(entry.open_digits())


def _do_ending(entry):
    return _text_or_unknown(entry.ending())


def _do_check(entry, text):
    return "yes" if _code_of(entry.rule, text) in entry.rule else "no"


def _do_nth(entry, text):
    return text_of(nth_valid(entry.rule, _integer_of(text)))


def _do_next(entry, text):
    return _text_or_unknown(next_valid(entry.rule, _code_of(entry.rule, text)))


def _do_fill(entry, text):
    return str(count_fillings(entry.rule, _partial_of(entry.rule, text)))


def _do_sure(entry, text):
    return text_of(sure_digits(entry.rule, _partial_of(entry.rule, text)))


def _do_fix(entry, text):
    found = fixes((entry.rule,), _code_of(entry.rule, text))
    return _listed([f"{place}={sign_of(digit)}" for place, digit in found])


def _do_weak(entry, text):
    kinds = unnoticed_kinds(entry.rule, _integer_of(text))
    return _listed([":".join([str(part) for part in kind]) for kind in kinds])


def _do_push(entry, text):
    digits = parse_code(text, entry.rule.base)
    return str(entry.push(*digits))


def _code_of(rule, text):
    return _with_all_places(rule, parse_code(text, rule.base))


def _partial_of(rule, text):
    return _with_all_places(rule, parse_partial(text, rule.base))


def _with_all_places(rule, digits):
    if len(digits) != len(rule):
        raise InvalidCommand(f"the codes of this rule have {len(rule)} places")
    return digits


def _integer_of(text):
    number = number_of(text)
    if number is None:
        raise InvalidCommand("an integer in this line has a wrong form")
    return number


def _text_or_nothing(digits):
    return text_of(digits) or NOTHING


def _text_or_unknown(digits):
    return UNKNOWN_SIGN if digits is None else _text_or_nothing(digits)


def _listed(items):
    return " ".join(items) or NOTHING


SINGLE_WORDS = {"count": _do_count, "undo": _do_undo, "open": _do_open, "ending": _do_ending}
WORDS_BEFORE_TEXT = {
    "check": _do_check,
    "nth": _do_nth,
    "next": _do_next,
    "fill": _do_fill,
    "sure": _do_sure,
    "fix": _do_fix,
    "weak": _do_weak,
    "push": _do_push,
}
