"""[18] The console: each line and its answer, lines that are none, errors that change nothing."""

import unittest
from itertools import product

from checkdigits.console import Console
from checkdigits.counting import count_valid, next_valid, nth_valid
from checkdigits.entries import Entry
from checkdigits.errors import Complete, InvalidCommand, InvalidNumber, NoFilling, NothingToUndo
from checkdigits.fixing import fixes
from checkdigits.gaps import count_fillings, sure_digits
from checkdigits.rules import Rule
from checkdigits.slips import unnoticed_kinds
from checkdigits.texts import format_code, format_weights
from tests.samples import OTHER_VALUES, Comparing, RaisingCase, all_codes, error_of

RULE_LINE = "rule 10 11 0 1 2 3 4"
PARTS = (
    (10, 11, (1, 2, 3, 4), 0),
    (10, 10, (1, 3, 1), 7),
    (10, 97, (10, 1, -3), 96),
    (10, 3, (1, 2, 6), 1),
    (10, 10, (2, 4, 6), 1),
    (2, 2, (1,), 0),
    (2, 2, (0,), 1),
    (2, 200, (1, 2, 4, 8, 16, 32, 64, 128), 199),
    (36, 200, (5, 7), 12),
    (36, 2, (1, 1), 1),
    (2, 7, (1, 2, 3, 4, 5, 6, 0, -1, 8), 5),
)
# One line of each kind for the rule above, and what the console answers if nothing is typed.
LINES = {
    "check 2111": "yes",
    "count": "909",
    "nth 2": "0024",
    "next 0013": "0024",
    "fill 1?1?": "9",
    "sure 211?": "2111",
    "fix 2112": "0=9 2=7 3=1",
    "weak 3": ".",
    "push 21": "2",
    "undo": NothingToUndo,
    "open": "0123456789",
    "ending": "0000",
}
WORDS = ("rule", *[line.split(" ")[0] for line in LINES])
WITHOUT_TEXT = ("count", "undo", "open", "ending")
WITH_CODE = ("check", "next", "fix")
WITH_PARTIAL = ("fill", "sure")
WITH_NUMBER = ("nth", "weak")
SPECIAL_SIGNS = (
    "\t", "\n", "\r", "\x0b", "\x0c", "\x00", "\x1c", "\x85", "\u00a0", "\u2003", "\u3000", "\u200b", "\ufeff",
    "\u0661", "\u00b2", "\uff11", "\uff41", "\u00e9", "\u4e09", "\U0001f600", "\ud800", "%", "+", "-", "_", ".", ",", ":",
)


def line_of(parts):
    return "rule " + format_weights(*parts)


def console_after(*lines):
    console = Console()
    for line in lines:
        console.execute(line)
    return console


def text_with_unknown(partial):
    return "".join("?" if digit is None else format_code((digit,)) for digit in partial)


def joined(items):
    return " ".join(items) if items else "."


def state_of(console):
    """What the console answers to lines that change nothing."""
    return [answer_or_error(console, line) for line in ("count", "open", "ending", "weak 29", "nth 0")]


def answer_or_error(console, line):
    error = error_of(console.execute, line)
    return console.execute(line) if error is None else type(error)


def typed_and_undone(console):
    """How the console can be undone: the open digits after each line. It is used up for it."""
    seen = [console.execute("open")]
    while error_of(console.execute, "undo") is None:
        seen.append(console.execute("open"))
    return seen


class ConsoleCase(RaisingCase):
    def answers(self, console, line, answer):
        given = console.execute(line)
        self.assertIs(type(given), str, line)
        self.assertEqual(given, answer, line)

    def refused(self, console, error, line):
        """The line is refused, and what the console answers stays the same."""
        before = state_of(console)
        self.raises(error, console.execute, line)
        self.assertEqual(state_of(console), before, line)


class RuleLinesTest(ConsoleCase):
    """Every line about the rule, against the functions, for rules with few codes."""

    def each(self):
        for parts in PARTS:
            yield console_after(line_of(parts)), Rule.weighted(*parts)

    def test_rule(self):
        for parts in PARTS:
            self.answers(Console(), line_of(parts), "ok")

    def test_count(self):
        for console, rule in self.each():
            self.answers(console, "count", str(count_valid(rule)))

    def test_codes(self):
        for console, rule in self.each():
            codes = all_codes(rule)
            for code in [*codes[:: max(1, len(codes) // 60)], *codes[-20:]]:
                text = format_code(code)
                least = next_valid(rule, code)
                found = fixes((rule,), code)
                self.answers(console, "check " + text, "yes" if code in rule else "no")
                self.answers(console, "next " + text, "?" if least is None else format_code(least))
                self.answers(console, "fix " + text, joined([f"{place}={format_code((d,))}" for place, d in found]))

    def test_numbers(self):
        for console, rule in self.each():
            many = count_valid(rule)
            for number in sorted({*range(min(many, 5)), *range(0, many, 41), *range(many)[-2:]}):
                self.answers(console, f"nth {number}", format_code(nth_valid(rule, number)))
            for number in (many, many + 1, 10**59, 10**60 - 1):
                self.refused(console, InvalidNumber, f"nth {number}")

    def test_partial_codes(self):
        for console, rule in self.each():
            codes = all_codes(rule)
            for mask in product((True, False), repeat=min(len(rule), 5)):
                for code in (codes[0], codes[-1], codes[len(codes) // 3]):
                    partial = tuple(None if unknown else digit for unknown, digit in zip(mask, code)) + code[len(mask):]
                    text = text_with_unknown(partial)
                    self.answers(console, "fill " + text, str(count_fillings(rule, partial)))
                    if count_fillings(rule, partial) == 0:
                        self.refused(console, NoFilling, "sure " + text)
                    else:
                        self.answers(console, "sure " + text, text_with_unknown(sure_digits(rule, partial)))

    def test_weak_kinds(self):
        for console, rule in self.each():
            for reach in (0, 1, 2, len(rule), 29, 10**60 - 1):
                kinds = [":".join(map(str, kind)) for kind in unnoticed_kinds(rule, reach)]
                self.answers(console, f"weak {reach}", joined(kinds))

    def test_some_answers(self):
        console = console_after("rule 10 10 0 1 3 1")
        self.answers(console, "weak 0", ".")
        self.answers(console, "weak 1", "swap:0:1 swap:1:2 twins:0:1 twins:1:2")
        self.answers(console, "weak 2", "swap:0:1 swap:0:2 swap:1:2 twins:0:1 twins:0:2 twins:1:2")
        self.answers(console_after("rule 10 5 0 1"), "weak 0", "change:0")
        console = console_after("rule 36 200 0 5 7")
        self.answers(console, "fix 00", ".")
        self.answers(console, "check 00", "yes")
        self.answers(console, "fix 0z", "0=v 1=0")
        self.answers(console, "sure ??", "??")
        self.answers(console, "next zz", "?")

    def test_all_lines(self):
        for line, answer in LINES.items():
            console = console_after(RULE_LINE)
            if isinstance(answer, str):
                self.answers(console, line, answer)
            else:
                self.refused(console, answer, line)

    def test_asking_changes_nothing(self):
        console = console_after(RULE_LINE, "push 21", "push 1")
        before = state_of(console)
        for line in LINES:
            if line not in ("push 21", "undo"):
                self.assertEqual(console.execute(line), console.execute(line))
                self.assertEqual(state_of(console), before)
        self.assertEqual(typed_and_undone(console), ["1", "123456789", "0123456789"])

    def test_no_valid_code(self):
        console = console_after("rule 10 10 1 2 4 6")
        for line, answer in (("count", "0"), ("open", "."), ("ending", "?"), ("next 000", "?"), ("fill ???", "0")):
            self.answers(console, line, answer)
        self.refused(console, InvalidNumber, "nth 0")
        self.refused(console, NoFilling, "sure ???")

    def test_30_places(self):
        parts = (36, 200, tuple(range(1, 31)), 123)
        console, rule = console_after(line_of(parts)), Rule.weighted(*parts)
        code = nth_valid(rule, 10**40)
        text = format_code(code)
        self.answers(console, "count", str(count_valid(rule)))
        self.answers(console, f"nth {10**40}", text)
        self.answers(console, "next " + text, text)
        self.answers(console, "check " + text, "yes")
        self.answers(console, "fill " + "?" * 30, str(count_valid(rule)))
        self.answers(console, "sure " + "?" * 30, "?" * 30)
        self.answers(console, "sure " + text[:29] + "?", text)
        self.answers(console, "push " + text, "30")
        self.answers(console, "ending", ".")
        found = fixes((rule,), (0,) * 30)
        self.assertIn(16, [place for place, _ in found])
        self.answers(console, "fix " + "0" * 30, joined([f"{place}={format_code((d,))}" for place, d in found]))
        self.answers(console, "weak 29", joined([":".join(map(str, kind)) for kind in unnoticed_kinds(rule, 29)]))


class EntryLinesTest(ConsoleCase):
    def answers_as(self, console, entry):
        # There may be more than 30 open digits, which are no code.
        signs = [format_code((digit,)) for digit in entry.open_digits()]
        self.answers(console, "open", "".join(signs) or ".")
        ending = entry.ending()
        if ending is None:
            self.answers(console, "ending", "?")
        else:
            self.answers(console, "ending", format_code(ending) if ending else ".")

    def test_digits_one_by_one(self):
        for parts in PARTS:
            rule = Rule.weighted(*parts)
            codes = all_codes(rule)
            for code in (codes[0], codes[-1], codes[len(codes) // 3], codes[len(codes) // 2]):
                console, entry = console_after(line_of(parts)), Entry(rule)
                self.answers_as(console, entry)
                for digit in code:
                    self.answers(console, "push " + format_code((digit,)), str(entry.push(digit)))
                    self.answers_as(console, entry)
                self.refused(console, Complete, "push 0")
                for _ in code:
                    self.answers(console, "undo", "ok")
                    entry.undo()
                    self.answers_as(console, entry)
                self.refused(console, NothingToUndo, "undo")

    def test_several_at_once(self):
        console = console_after(RULE_LINE)
        self.answers(console, "push 21", "2")
        self.answers(console, "open", "123456789")
        self.answers(console, "ending", "11")
        self.answers(console, "push 11", "4")
        self.answers(console, "open", ".")
        self.answers(console, "ending", ".")
        self.answers(console, "undo", "ok")
        self.answers(console, "push 12", "4")
        self.answers(console, "open", ".")
        self.answers(console, "ending", "?")
        self.answers(console, "undo", "ok")
        self.answers(console, "undo", "ok")
        self.answers(console, "ending", "0000")
        self.refused(console, NothingToUndo, "undo")

    def test_too_many_digits(self):
        console = console_after(RULE_LINE, "push 213")
        for digits in ("11", "111", "0" * 28, "9" * 30):
            self.refused(console, Complete, "push " + digits)
        self.answers(console, "push 5", "4")
        self.refused(console, Complete, "push 0")
        self.assertEqual(typed_and_undone(console), [".", "5", "0123456789"])

    def test_a_second_rule(self):
        console = console_after(RULE_LINE, "push 21", "push 1")
        self.answers(console, "rule 2 7 5 1 1 1", "ok")
        self.answers(console, "count", "0")
        self.answers(console, "open", ".")
        self.refused(console, NothingToUndo, "undo")
        self.refused(console, InvalidCommand, "push 21")
        self.answers(console, "push 101", "3")
        self.refused(console, Complete, "push 1")

    def test_the_same_rule_again(self):
        console = console_after(RULE_LINE, "push 21")
        self.answers(console, RULE_LINE, "ok")
        self.answers(console, "ending", "0000")
        self.refused(console, NothingToUndo, "undo")

    def test_a_wrong_second_rule(self):
        console = console_after(RULE_LINE, "push 21")
        for line in ("rule", "rule 10 11 0", "rule 10 11 11 1", "rule 10 11 0 1 2 3 11", "rule 10 11 0 1 2 3 4 "):
            self.refused(console, InvalidCommand, line)
        self.assertEqual(typed_and_undone(console), ["123456789", "0123456789"])

    def test_two_consoles(self):
        one, two = console_after(RULE_LINE), Console()
        self.raises(InvalidCommand, two.execute, "count")
        two.execute("rule 2 2 0 1 1")
        one.execute("push 21")
        self.answers(two, "ending", "00")
        self.refused(two, NothingToUndo, "undo")
        two.execute("push 1")
        self.answers(one, "ending", "11")
        self.answers(two, "ending", "1")
        one.execute("undo")
        self.answers(two, "ending", "1")
        self.answers(one, "count", "909")
        self.answers(two, "count", "2")


class WrongLinesTest(ConsoleCase):
    """Values that are no lines, after a rule and some digits."""

    def setUp(self):
        self.console = console_after(RULE_LINE, "push 2", "push 1")

    def none(self, *lines):
        for line in lines:
            self.refused(self.console, InvalidCommand, line)

    def tearDown(self):
        self.assertEqual(self.console.execute("ending"), "11")
        self.assertEqual(typed_and_undone(self.console), ["123456789", "0123456789", "0123456789"])

    def test_no_strings(self):
        no_strings = [value for value in OTHER_VALUES if not isinstance(value, str)]
        self.none(*no_strings, b"count", ["count"], ("check", "2111"), Comparing(), self.console)

    def test_other_words(self):
        self.none("", " ", "  ", ".", "?", "0", "2111", "help", "type", "open_digits", "copy", "counts", "coun", "__init__")
        self.none("help 1", "pop", "valid 2111", "unnoticed 1", "notices 1", "nth_valid 0", "typed", "sum_now", "len")

    def test_capital_letters(self):
        for line in (*LINES, RULE_LINE):
            word, *texts = line.split(" ")
            for other in (word.upper(), word.capitalize(), word[:-1] + word[-1].upper()):
                self.none(" ".join([other, *texts]))

    def test_missing_words(self):
        self.none(*[word for word in WORDS if word not in WITHOUT_TEXT])
        self.none("rule 10", "rule 10 11", "rule 10 11 0")

    def test_one_more_word(self):
        for line in LINES:
            for more in ("0", "1", "2111", "?", ".", "x", line):
                self.none(line + " " + more)
        self.none("undo undo", "open 1", "rule " + RULE_LINE, "count count")

    def test_empty_words(self):
        for line in (*LINES, RULE_LINE):
            self.none(" " + line, "  " + line, line + " ", line + "  ", " " + line + " ")
            word = line.split(" ")[0]
            self.none(word + " ", word + "  ")
            if word != line:
                self.none(line.replace(" ", "  "), line.replace(" ", "  ", 1), line.replace(" ", " . ", 1))

    def test_special_signs(self):
        for line in (*LINES, RULE_LINE):
            for sign in SPECIAL_SIGNS:
                self.none(sign + line, line + sign, line[:2] + sign + line[2:])
                if " " in line:
                    self.none(line.replace(" ", sign), line.replace(" ", " " + sign), line.replace(" ", sign + " "))
                    self.none(line[:-1] + sign)

    def test_codes_of_another_form(self):
        for word in WITH_CODE:
            self.none(*[word + " " + text for text in (
                "211", "21111", "2", "1" * 30, "1" * 31, "211a", "a111", "21?1", "????", "2 111", "21 11", "2,1,1,1",
                "(2,", "-211", "2111?", "A111", "2.11", "0x11",
            )])

    def test_partial_codes_of_another_form(self):
        for word in WITH_PARTIAL:
            self.none(*[word + " " + text for text in (
                "???", "?????", "211", "2111?", "?" * 30, "?" * 31, "?a??", "? ??", "?.??", "*111", "21 1?", "None",
            )])

    def test_numbers_of_another_form(self):
        for word in WITH_NUMBER:
            self.none(*[word + " " + text for text in (
                "-1", "-0", "+1", "00", "01", "0002", "1.0", "1e1", "1_0", "0x1", "a", "?", "one", "1" * 61, "9" * 61,
                "1" + "0" * 60, "0" * 60, "9" * 900, "\u0661", "1\u0661", "\u00b2", "\uff11", "1,", "1\n", "\t1",
            )])

    def test_numbers_of_60_digits(self):
        self.assertEqual(self.console.execute("weak " + "9" * 60), ".")
        self.refused(self.console, InvalidNumber, "nth " + "9" * 60)
        self.refused(self.console, InvalidNumber, "nth 909")

    def test_digits_of_another_form(self):
        self.none(*["push " + text for text in (
            "", "a", "1a", "a1", "?", "1?", "-1", "1,2", "1 2", "1" * 31, "1" * 60, "A", "\u0661", "1\u0661", "\u00b2", ".",
        )])
        # The form comes first, then whether there is a place.
        self.refused(self.console, Complete, "push " + "1" * 30)
        self.none("push " + "1" * 29 + "a")

    def test_texts_of_rules_of_another_form(self):
        self.none(*["rule " + text for text in (
            "", "1 11 0 1", "37 11 0 1", "010 11 0 1", "10 1 0 1", "10 201 0 1", "10 011 0 1", "10 11 11 1", "10 11 -1 1",
            "10 11 00 1", "10 11 0 11", "10 11 0 -1", "10 11 0 01", "10 11 0 a", "10 11 0 1 2 ?", "10 11 0" + " 1" * 31,
            "10 11 0 1,2", "10,11,0,1", "10  11 0 1", "10 11 0 1 ", " 10 11 0 1", "10 11 0 (1, 2)", "\u0661\u0660 11 0 1",
        )])


class BeforeTheFirstRuleTest(ConsoleCase):
    def test_every_line(self):
        console = Console()
        for line in LINES:
            self.raises(InvalidCommand, console.execute, line)
        for line in (*OTHER_VALUES, "check", "count 1", "nth x", "fill ?????", "rule", "rule 10 11 0", "rule 10 11 0 11"):
            self.raises(InvalidCommand, console.execute, line)
            self.raises(InvalidCommand, console.execute, "count")
        self.answers(console, RULE_LINE, "ok")
        self.answers(console, "count", "909")

    def test_nothing_is_typed_before_it(self):
        console = Console()
        self.raises(InvalidCommand, console.execute, "push 21")
        console.execute(RULE_LINE)
        self.answers(console, "ending", "0000")
        self.refused(console, NothingToUndo, "undo")

    def test_30_weights(self):
        self.answers(Console(), "rule 10 11 0" + " 1" * 30, "ok")
        self.raises(InvalidCommand, Console().execute, "rule 10 11 0" + " 1" * 31)


class CallsTest(ConsoleCase):
    def test_by_name(self):
        console = Console()
        self.assertEqual(console.execute(line=RULE_LINE), "ok")
        self.raises(InvalidCommand, console.execute, line="counts")

    def test_errors_of_the_same_line_again(self):
        console = console_after("rule 10 10 1 2 4 6")
        for line, error in (("sure ???", NoFilling), ("undo", NothingToUndo), ("nth 0", InvalidNumber), ("", InvalidCommand)):
            self.refused(console, error, line)
            self.refused(console, error, line)


class ExampleTest(unittest.TestCase):
    def test_of_the_document(self):
        console = Console()
        seen = [console.execute(RULE_LINE), console.execute("check 2111"), console.execute("next 0013")]
        more = [console.execute(line) for line in ("sure 211?", "push 21", "ending", "weak 3")]
        self.assertEqual([seen, *more], [["ok", "yes", "0024"], "2111", "2", "11", "."])


if __name__ == "__main__":
    unittest.main()
