"""[6], [8], [12] Slips: the kinds that a rule notices, the pairs that it does not, and how many slips there are."""

import unittest
from itertools import permutations, product

from checkdigits.counting import count_valid
from checkdigits.errors import InvalidKind, InvalidReach, InvalidRule
from checkdigits.gaps import count_fillings
from checkdigits.rules import Rule
from checkdigits.slips import count_slips, notices, unnoticed, unnoticed_kinds
from tests.samples import NO_INTEGERS, OTHER_VALUES, Comparing, RaisingCase, error_of
from tests.samples import all_codes, all_kinds, large_rules, plain_sum, small_rules

RULE = Rule.weighted(10, 10, (1, 3, 1))
WITH_KIND = (unnoticed, notices, count_slips)
WITHOUT_VALID_CODE = (
    Rule.weighted(10, 10, (2, 4, 6), 1),
    Rule.weighted(36, 200, (10,) * 30, 5),
    Rule(2, ((1, 1), (1, 1)), 1),
    Rule(4, ((0, 2, 0), (0, 0, 2), (2, 2, 2)), 3),
)


def slips_of(kind, code, base):
    """The codes that arise from a code by slips of a kind, each with the two digits, the lesser one first."""
    word, *places = kind
    digits = [code[place] for place in places]
    if word == "swap":
        changed = [digits[::-1]] if digits[0] != digits[1] else []
    elif digits[0] == digits[-1]:
        changed = [[digit] * len(places) for digit in range(base) if digit != digits[0]]
    else:
        changed = []
    for new in changed:
        other = list(code)
        for place, digit in zip(places, new):
            other[place] = digit
        yield tuple(other), tuple(sorted((digits[0], new[0])))


def pairs_by_definition(rule, kind):
    """The unnoticed pairs, as [6] words it."""
    word, *places = kind
    rows = [rule.rows[place] for place in places]
    equal = {
        "change": lambda a, b: rows[0][a] == rows[0][b],
        "swap": lambda a, b: (rows[0][a] + rows[1][b] - rows[0][b] - rows[1][a]) % rule.modulus == 0,
        "twins": lambda a, b: (rows[0][a] + rows[1][a] - rows[0][b] - rows[1][b]) % rule.modulus == 0,
    }[word]
    return [(a, b) for a in range(rule.base) for b in range(a + 1, rule.base) if equal(a, b)]


class SmallRulesTest(RaisingCase):
    """Everything against going through all slips of all codes."""

    def test_all_slips_of_all_codes(self):
        for rule in [*small_rules(), RULE]:
            sums = {code: plain_sum(rule, code) for code in all_codes(rule)}
            for kind in all_kinds(rule):
                unseen, slips, missed = {}, 0, 0
                for code, total in sums.items():
                    for other, pair in slips_of(kind, code, rule.base):
                        if sums[other] == total:
                            unseen[pair] = True
                        if total == rule.remainder:
                            slips += 1
                            missed += sums[other] == total
                self.assertEqual(unnoticed(rule, kind), min(unseen, default=None), (rule.rows, kind))
                self.assertIs(notices(rule, kind), not unseen, (rule.rows, kind))
                self.assertEqual(count_slips(rule, kind), (slips, missed), (rule.rows, kind))

    def test_kinds_by_reach(self):
        for rule in [*small_rules(), RULE]:
            for reach in (0, 1, 2, len(rule) - 1, len(rule), len(rule) + 7, 10**39 + 1, 10**60 - 1):
                kinds = [
                    kind for kind in all_kinds(rule)
                    if kind[-1] - kind[1] <= reach and pairs_by_definition(rule, kind)
                ]
                self.assertEqual(unnoticed_kinds(rule, reach), kinds, (rule.rows, reach))

    def test_the_samples_hold_what_they_should(self):
        for word in ("change", "swap", "twins"):
            seen = {
                notices(rule, kind) for rule in small_rules() for kind in all_kinds(rule) if kind[0] == word
            }
            self.assertEqual(seen, {True, False})

    def test_base_and_modulus_are_the_same_even_number(self):
        # [8] (d), for weighted rules and others.
        for base in (2, 4):
            for rows in product(permutations(range(base)), repeat=2):
                self.assertFalse(notices(Rule(base, rows, 0), ("swap", 0, 1)))
        for base in (6, 10, 36):
            orders = [tuple((digit * step + 3) % (base + 1) for digit in range(base)) for step in (1, 2, base - 1)]
            rows = [tuple(sorted(range(base), key=order.__getitem__)) for order in orders]
            for one, two in product([*rows, tuple(range(base)), tuple(range(base))[::-1]], repeat=2):
                rule = Rule(base, (one, two), 1)
                self.assertTrue(notices(rule, ("change", 0)) and notices(rule, ("change", 1)))
                self.assertFalse(notices(rule, ("swap", 0, 1)))


class ResultsTest(RaisingCase):
    def test_values(self):
        for kind in all_kinds(RULE):
            self.assertIs(count_slips(RULE, kind).__class__, tuple)
            self.assertEqual([many.__class__ for many in count_slips(RULE, kind)], [int, int])
            self.assertIs(notices(RULE, kind).__class__, bool)
            self.assertIn(unnoticed(RULE, kind).__class__, (tuple, None.__class__))
        self.assertIs(unnoticed_kinds(RULE, 2).__class__, list)
        self.assertEqual({kind.__class__ for kind in unnoticed_kinds(RULE, 2)}, {tuple})

    def test_least_pair_of_several(self):
        rule = Rule(9, ((5, 4, 3, 4, 3, 5), (0, 2, 4, 2, 2, 0)), 0)
        self.assertEqual(unnoticed(rule, ("change", 0)), (0, 5))
        self.assertEqual(unnoticed(rule, ("change", 1)), (0, 5))
        self.assertEqual(unnoticed(rule, ("swap", 0, 1)), (0, 5))
        self.assertEqual(unnoticed(rule, ("twins", 0, 1)), (0, 4))

    def test_order_and_all_words(self):
        rule = Rule.weighted(3, 4, (2, 1, 2, 3))
        kinds = [
            ("change", 0), ("change", 2),
            ("swap", 0, 2), ("swap", 1, 3),
            ("twins", 0, 2), ("twins", 1, 3),
        ]
        for reach in (2, 3):
            self.assertEqual(unnoticed_kinds(rule, reach), kinds)
        for reach in (0, 1):
            self.assertEqual(unnoticed_kinds(rule, reach), [("change", 0), ("change", 2)])

    def test_places_are_ordered_as_numbers(self):
        rule = Rule(2, ((1, 1),) * 12, 0)
        places = range(12)
        pairs = [(i, j) for i in places for j in places if i < j]
        kinds = [("change", i) for i in places]
        kinds += [(word, i, j) for word in ("swap", "twins") for i, j in pairs]
        self.assertEqual(unnoticed_kinds(rule, 11), kinds)
        self.assertEqual(unnoticed_kinds(rule, 10), [kind for kind in kinds if kind[1:] != (0, 11)])

    def test_no_valid_code(self):
        for rule in WITHOUT_VALID_CODE:
            self.assertEqual(count_valid(rule), 0)
            for kind in all_kinds(rule)[::50] + all_kinds(rule)[-1:]:
                self.assertEqual(count_slips(rule, kind), (0, 0))

    def test_one_place(self):
        rule = Rule(4, ((0, 1, 1, 1),), 1)
        self.assertEqual(unnoticed_kinds(rule, 5), [("change", 0)])
        self.assertEqual(count_slips(rule, ("change", 0)), (9, 6))
        self.raises(InvalidKind, unnoticed, rule, ("swap", 0, 0))
        self.raises(InvalidKind, unnoticed, rule, ("twins", 0, 1))


class LargeRulesTest(RaisingCase):
    """30 places, also with base 36 and modulus 200."""

    def test_against_the_definition(self):
        for rule in large_rules():
            for kind in all_kinds(rule)[::7]:
                pairs = pairs_by_definition(rule, kind)
                self.assertEqual(unnoticed(rule, kind), min(pairs, default=None))
                self.assertIs(notices(rule, kind), not pairs)

    def test_all_kinds_by_reach(self):
        for rule in large_rules():
            kinds = [kind for kind in all_kinds(rule) if not notices(rule, kind)]
            for reach in (29, 30, 10**39):
                self.assertEqual(unnoticed_kinds(rule, reach), kinds)
            for reach in (0, 1, 28):
                near = [kind for kind in kinds if kind[-1] - kind[1] <= reach]
                self.assertEqual(unnoticed_kinds(rule, reach), near)

    def test_counts_against_fillings(self):
        for rule in large_rules():
            for kind in (("change", 0), ("change", 29), ("swap", 0, 29), ("twins", 12, 13)):
                slips, missed = count_slips(rule, kind)
                self.assertEqual(slips, self.slips_by_fillings(rule, kind))
                pairs = pairs_by_definition(rule, kind)
                self.assertEqual(missed, sum(self.missed_by_fillings(rule, kind, pair) for pair in pairs))

    def fillings(self, rule, places, digits):
        partial = [None] * len(rule)
        for place, digit in zip(places, digits):
            partial[place] = digit
        return count_fillings(rule, tuple(partial))

    def slips_by_fillings(self, rule, kind):
        word, *places = kind
        if word == "change":
            return count_valid(rule) * (rule.base - 1)
        same = sum(self.fillings(rule, places, (digit, digit)) for digit in range(rule.base))
        return count_valid(rule) - same if word == "swap" else same * (rule.base - 1)

    def missed_by_fillings(self, rule, kind, pair):
        word, *places = kind
        if word == "swap":
            return self.fillings(rule, places, pair) + self.fillings(rule, places, pair[::-1])
        return sum(self.fillings(rule, places, (digit,) * len(places)) for digit in pair)

    def test_counts_that_can_be_told(self):
        rule = Rule.weighted(36, 36, (1,) * 30, 7)
        self.assertEqual(count_slips(rule, ("change", 4)), (36**29 * 35, 0))
        self.assertEqual(count_slips(rule, ("swap", 0, 29)), (36**28 * 35, 36**28 * 35))
        self.assertEqual(count_slips(rule, ("twins", 3, 9)), (36**28 * 35, 36**28))
        rule = Rule(200, ((9,) * 36,) * 30, 70)
        self.assertEqual(count_slips(rule, ("change", 4)), (36**30 * 35,) * 2)
        self.assertEqual(count_slips(rule, ("swap", 0, 29)), (36**29 * 35,) * 2)
        self.assertEqual(count_slips(rule, ("twins", 28, 29)), (36**29 * 35,) * 2)


def no_kinds(places):
    """Values that are no kinds of slips of a rule with as many places, at least three."""
    last = places - 1
    wrong_places = (*NO_INTEGERS, -1, -2, -places, places, places + 1, 10**59, -(10**59))
    wrong_words = ("", "Change", "CHANGE", "change ", "swaps", "twin", "step", "\u0441hange", b"change", b"swap")
    words = (*wrong_words, None, True, 0, 1, (), ("change",), ["swap"], object(), str, Comparing())
    return [
        *OTHER_VALUES, "change", "swap", "twins", "change0", Comparing(),
        ("change",), ("swap",), ("twins",), ("swap", 0), ("twins", 0), ("change", 0, 1), ("change", 0, 0),
        ("swap", 0, 1, 2), ("twins", 0, 1, 2), ("change", 0, 1, 2), ("swap", (0, 1)), ("change", (0,)), (("change", 0),),
        ("swap", 0, 0), ("twins", 0, 0), ("swap", last, last), ("twins", last, last),
        ("swap", 1, 0), ("twins", 1, 0), ("swap", last, 0), ("twins", last, last - 1),
        ["change", 0], ["swap", 0, 1], ["twins", 0, 1], {"change": 0}, {"change", 0}, (0, "change"), (0, 1, "swap"),
        *[("change", place) for place in wrong_places],
        *[(word, place, 2) for word in ("swap", "twins") for place in wrong_places],
        *[(word, 0, place) for word in ("swap", "twins") for place in wrong_places],
        *[(word, 0) for word in (*words, "swap", "twins")],
        *[(word, 0, 1) for word in (*words, "change")],
    ]


class WrongArgumentsTest(RaisingCase):
    def test_no_rules(self):
        for value in (*OTHER_VALUES, RULE.rows, (RULE,), [RULE]):
            for function in WITH_KIND:
                self.raises(InvalidRule, function, value, ("change", 0))
            self.raises(InvalidRule, unnoticed_kinds, value, 1)

    def test_no_kinds(self):
        for rule in (RULE, Rule.weighted(10, 11, (1, 2, 3, 4)), large_rules()[0], WITHOUT_VALID_CODE[0]):
            for value in no_kinds(len(rule)):
                for function in WITH_KIND:
                    self.raises(InvalidKind, function, rule, value)

    def test_places_just_inside(self):
        for rule in (RULE, large_rules()[0]):
            last = len(rule) - 1
            for kind in (("change", last), ("swap", last - 1, last), ("twins", 0, last)):
                for function in WITH_KIND:
                    self.assertIsNone(error_of(function, rule, kind))

    def test_wrong_reach(self):
        for reach in (*NO_INTEGERS, -1, -2, -(10**59)):
            self.raises(InvalidReach, unnoticed_kinds, RULE, reach)

    def test_several_at_once(self):
        for function in WITH_KIND:
            self.raises(InvalidRule, function, None, None)
            self.raises(InvalidRule, function, kind=None, rule=())
            self.raises(InvalidRule, function, ("change", 0), RULE)
        self.raises(InvalidRule, unnoticed_kinds, None, -1)
        self.raises(InvalidRule, unnoticed_kinds, reach=-1, rule=[])


class CallsTest(RaisingCase):
    """[2]: by position and by name, twice, with arguments that stay as they are."""

    def test_by_name(self):
        kind = ("swap", 0, 1)
        self.assertEqual(unnoticed(kind=kind, rule=RULE), (0, 5))
        self.assertIs(notices(kind=kind, rule=RULE), False)
        self.assertEqual(count_slips(kind=kind, rule=RULE), (90, 10))
        self.assertEqual(unnoticed_kinds(reach=0, rule=RULE), [])

    def test_a_list_that_the_caller_changes(self):
        for reach in (1, 2):
            kinds = unnoticed_kinds(RULE, reach)
            seen = list(kinds)
            kinds[0] = None
            kinds.append(5)
            self.assertEqual(unnoticed_kinds(RULE, reach), seen)
        empty = unnoticed_kinds(RULE, 0)
        empty.append(5)
        self.assertEqual(unnoticed_kinds(RULE, 0), [])

    def test_arguments_are_unchanged(self):
        rule = Rule.weighted(10, 10, (1, 3, 1))
        rows, kind, reach = rule.rows, ["swap", 0, 1], [1]
        for _ in range(2):
            for function in WITH_KIND:
                self.assertEqual(function(rule, tuple(kind)), function(RULE, ("swap", 0, 1)))
                self.raises(InvalidKind, function, rule, kind)
            self.raises(InvalidReach, unnoticed_kinds, rule, reach)
            self.assertEqual(unnoticed_kinds(rule, 2), unnoticed_kinds(RULE, 2))
        self.assertEqual((kind, reach), (["swap", 0, 1], [1]))
        self.assertIs(rule.rows, rows)
        self.assertEqual(rule, RULE)


class ExampleTest(unittest.TestCase):
    def test_of_the_document(self):
        seen = [
            unnoticed(RULE, ("change", 0)), unnoticed(RULE, ("swap", 0, 1)), count_slips(RULE, ("swap", 0, 1)),
        ]
        self.assertEqual(seen, [None, (0, 5), (90, 10)])

    def test_of_the_document_for_kinds(self):
        kinds = [("swap", 0, 1), ("swap", 1, 2), ("twins", 0, 1), ("twins", 1, 2)]
        self.assertEqual(unnoticed_kinds(RULE, 1), kinds)


if __name__ == "__main__":
    unittest.main()
