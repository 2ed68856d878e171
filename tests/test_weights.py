"""[8], [13] Weights: the least divisor, the greatest number of places, weights that notice, kinds that they miss."""

import unittest
from itertools import product

from checkdigits.errors import InvalidBase, InvalidModulus, InvalidPlaces, InvalidReach, InvalidWeights, NoWeights
from checkdigits.rules import Rule
from checkdigits.slips import unnoticed_kinds
from checkdigits.weights import good_weights, least_divisor, longest, weak_kind
from tests.samples import NO_INTEGERS, OTHER_VALUES, RaisingCase, error_of

BASES = range(2, 37)
MODULI = range(2, 201)
SOME_BASES = (2, 3, 10, 26, 36)
SOME_MODULI = (2, 3, 4, 9, 10, 11, 12, 26, 35, 36, 37, 60, 64, 97, 100, 121, 143, 180, 193, 199, 200)
WRONG_BASES = (*NO_INTEGERS, 0, 1, 37, -2, -10, 10**59, -(10**59))
WRONG_MODULI = (*NO_INTEGERS, 0, 1, 201, -2, -11, 10**59, -(10**59))
WRONG_PLACES = (*NO_INTEGERS, 0, -1, 31, 32, 60, 10**59, -(10**59))
WRONG_REACHES = (*NO_INTEGERS, -1, -2, -(10**59))


def divisor_by_definition(base, modulus):
    return min(g for g in range(1, modulus + 1) if modulus % g == 0 and modulus // g < base)


def most_by_definition(base, modulus, twins):
    divisor = divisor_by_definition(base, modulus)
    return divisor // 2 if twins else divisor - 1


def first_weak_kind(base, modulus, weights, reach, twins):
    """The least kind of [6] that is not noticed; a weight counts as often as the digits differ."""
    places = range(len(weights))
    pairs = [(i, j) for i in places for j in places if i < j <= i + reach]
    factors = [(("change", i), weights[i]) for i in places]
    factors += [(("swap", i, j), weights[i] - weights[j]) for i, j in pairs]
    factors += [(("twins", i, j), weights[i] + weights[j]) for i, j in pairs if twins]
    weak = [kind for kind, factor in factors if any(factor * step % modulus == 0 for step in range(1, base))]
    return min(weak, default=None)


class DivisorTest(RaisingCase):
    def test_all_bases_and_moduli(self):
        for base in BASES:
            for modulus in MODULI:
                divisor = divisor_by_definition(base, modulus)
                self.assertEqual(least_divisor(base, modulus), divisor, (base, modulus))
                self.assertEqual(longest(base, modulus), divisor - 1, (base, modulus))
                self.assertEqual(longest(base, modulus, twins=False), divisor - 1, (base, modulus))
                self.assertEqual(longest(base, modulus, twins=True), divisor // 2, (base, modulus))

    def test_values(self):
        self.assertEqual([least_divisor(2, 2), least_divisor(36, 2), least_divisor(2, 200)], [2, 1, 200])
        self.assertEqual([least_divisor(10, 9), least_divisor(10, 10), least_divisor(11, 10)], [1, 2, 1])
        self.assertEqual([longest(36, 35), longest(36, 35, twins=True)], [0, 0])
        self.assertEqual([longest(2, 200), longest(2, 199, twins=True)], [199, 99])
        self.assertEqual([longest(10, 10), longest(10, 10, twins=True)], [1, 1])
        for number in (least_divisor(10, 11), longest(10, 11), longest(10, 11, twins=True)):
            self.assertIs(number.__class__, int)

    def test_by_name(self):
        self.assertEqual(least_divisor(modulus=100, base=10), 20)
        self.assertEqual(longest(modulus=97, base=10), 96)
        self.assertEqual(longest(twins=True, modulus=97, base=10), 48)

    def test_twins_by_name_only(self):
        with self.assertRaises(TypeError):
            longest(10, 97, True)

    def test_wrong_arguments(self):
        for function in (least_divisor, longest):
            for base in WRONG_BASES:
                self.raises(InvalidBase, function, base, 11)
                self.raises(InvalidBase, function, base, None)
                self.raises(InvalidBase, function, modulus=1, base=base)
            for modulus in WRONG_MODULI:
                self.raises(InvalidModulus, function, 10, modulus)
        self.raises(InvalidBase, longest, 1, 1, twins=True)
        self.raises(InvalidModulus, longest, 10, 1, twins=True)


class SmallWeightsTest(RaisingCase):
    """Whether there are weights, against going through all weights."""

    def exist(self, base, modulus, places, reach, twins):
        return any(
            first_weak_kind(base, modulus, weights, reach, twins) is None
            for weights in product(range(modulus), repeat=places)
        )

    def test_all_weights(self):
        for base, modulus, twins in product((2, 3, 4, 5), range(2, 8), (False, True)):
            for reach in (0, 1, 2, 3):
                longest_found = 0
                for places in range(1, 5):
                    error = error_of(good_weights, base, modulus, places, reach, twins=twins)
                    self.assertEqual(error is None, self.exist(base, modulus, places, reach, twins))
                    if error is None:
                        longest_found = places
                    else:
                        self.assertIs(error.__class__, NoWeights)
                        self.assertEqual(error.most, longest_found, (base, modulus, places, reach, twins))


class GoodWeightsTest(RaisingCase):
    def good(self, base, modulus, places, reach, twins):
        given = (base, modulus, places, reach, twins)
        weights = good_weights(base, modulus, places, reach, twins=twins)
        self.assertIs(weights.__class__, tuple, given)
        self.assertEqual(len(weights), places, given)
        for weight in weights:
            self.assertIs(weight.__class__, int, given)
            self.assertTrue(0 <= weight < modulus, given)
        self.assertIsNone(first_weak_kind(base, modulus, weights, reach, twins), given)
        return weights

    def none(self, base, modulus, places, reach, twins, most):
        error = error_of(good_weights, base, modulus, places, reach, twins=twins)
        self.assertIs(error.__class__, NoWeights, (base, modulus, places, reach, twins))
        self.assertEqual(error.most, most)
        self.assertLess(error.most, places)

    def test_just_at_and_just_above_what_is_allowed(self):
        for base, modulus, twins in product(SOME_BASES, SOME_MODULI, (False, True)):
            most = most_by_definition(base, modulus, twins)
            for places in sorted({1, 2, most - 1, most, most + 1, 29, 30} & set(range(1, 31))):
                for reach in sorted({0, 1, most - 2, most - 1, most, places - 1, places, 10**59} - {-1, -2}):
                    if min(places, reach + 1) <= most:
                        self.good(base, modulus, places, reach, twins)
                    else:
                        self.none(base, modulus, places, reach, twins, most)

    def test_all_bases_and_moduli(self):
        for base, modulus in product(BASES, range(2, 201, 7)):
            for twins in (False, True):
                most = most_by_definition(base, modulus, twins)
                if most > 0:
                    self.good(base, modulus, min(30, most), 30, twins)
                if 0 < most < 30:
                    self.good(base, modulus, 30, most - 1, twins)
                if most < 30:
                    self.none(base, modulus, most + 1, most, twins, most)
                    self.none(base, modulus, 30, 10**59, twins, most)

    def test_the_rule_misses_nothing_within_the_reach(self):
        for base, modulus, places, reach in ((10, 11, 10, 9), (10, 10, 5, 0), (10, 12, 1, 5), (36, 199, 30, 29),
                                             (10, 97, 30, 10**39), (2, 3, 30, 1), (10, 100, 30, 18)):
            kinds = unnoticed_kinds(Rule.weighted(base, modulus, self.good(base, modulus, places, reach, False)), reach)
            self.assertEqual([kind for kind in kinds if kind[0] != "twins"], [])
        for base, modulus, places, reach in ((10, 11, 5, 4), (10, 10, 5, 0), (36, 199, 30, 29), (10, 97, 30, 10**39),
                                             (2, 4, 30, 1), (10, 100, 30, 9), (10, 13, 30, 5)):
            weights = self.good(base, modulus, places, reach, True)
            self.assertEqual(unnoticed_kinds(Rule.weighted(base, modulus, weights), reach), [])

    def test_no_weights_at_all(self):
        for twins in (False, True):
            for places, reach in ((1, 0), (1, 5), (30, 0), (30, 10**59)):
                self.none(10, 9, places, reach, twins, 0)
                self.none(36, 2, places, reach, twins, 0)

    def test_reach_of_zero_needs_no_different_weights(self):
        for twins in (False, True):
            self.good(10, 10, 30, 0, twins)
            self.good(2, 2, 30, 0, twins)

    def test_without_twins_by_default(self):
        weights = good_weights(10, 11, 10, 9)
        self.assertIsNone(first_weak_kind(10, 11, weights, 9, False))
        error = error_of(good_weights, 10, 11, 10, 9, twins=True)
        self.assertEqual((error.__class__, error.most), (NoWeights, 5))

    def test_equal_calls(self):
        for twins in (False, True):
            seen = good_weights(10, 97, 20, 7, twins=twins)
            self.assertEqual(good_weights(10, 97, 20, 7, twins=twins), seen)
            self.assertEqual(good_weights(twins=twins, reach=7, places=20, modulus=97, base=10), seen)
        self.assertEqual(good_weights(10, 97, 20, 7, twins=False), good_weights(10, 97, 20, 7))

    def test_twins_by_name_only(self):
        with self.assertRaises(TypeError):
            good_weights(10, 97, 20, 7, True)

    def test_wrong_arguments(self):
        for base in WRONG_BASES:
            self.raises(InvalidBase, good_weights, base, 11, 3, 1)
        for modulus in WRONG_MODULI:
            self.raises(InvalidModulus, good_weights, 10, modulus, 3, 1)
        for places in WRONG_PLACES:
            self.raises(InvalidPlaces, good_weights, 10, 11, places, 1)
        for reach in WRONG_REACHES:
            self.raises(InvalidReach, good_weights, 10, 11, 3, reach)

    def test_several_at_once(self):
        self.raises(InvalidBase, good_weights, 1, 1, 0, -1)
        self.raises(InvalidModulus, good_weights, 10, 1, 0, -1)
        self.raises(InvalidPlaces, good_weights, 10, 11, 0, -1)
        self.raises(InvalidBase, good_weights, reach=-1, places=0, modulus=0, base=0, twins=True)
        # Wrong arguments come before the answer that there are no weights.
        self.raises(InvalidPlaces, good_weights, 10, 9, 31, 1)
        self.raises(InvalidReach, good_weights, 10, 9, 1, -1)
        self.raises(InvalidReach, good_weights, 10, 10, 2, True, twins=True)

    def test_arguments_are_unchanged(self):
        places, reach = [3], [1]
        self.raises(InvalidPlaces, good_weights, 10, 11, places, 1)
        self.raises(InvalidReach, good_weights, 10, 11, 3, reach)
        self.assertEqual((places, reach), ([3], [1]))


class WeakKindTest(RaisingCase):
    WEIGHTS = (
        (1, 2, 3, 4), (1, 2, 12), (0,), (5,), (1, -1), (1, 1), (2, 9, 13, -2, 200), (7, -4, 7, -4), (3, 1, 3, 1, 3),
        (10**60 - 1, 10**59 + 7, 1 - 10**60), (123456789**6, -(987654321**6), 5, 10**59), (1, 2, 4, 8, 16, 32, 64, 128),
        tuple(range(1, 31)), tuple(range(-30, 0)), tuple(3**k for k in range(30)), (0,) * 30, (1,) * 30,
    )
    REACHES = (0, 1, 2, 3, 29, 30, 10**39)

    def each(self):
        for base, modulus in ((2, 2), (2, 200), (10, 9), (10, 10), (10, 11), (10, 97), (36, 37), (36, 199), (5, 24)):
            for weights in self.WEIGHTS:
                for reach in self.REACHES:
                    yield base, modulus, weights, reach

    def test_against_the_definition(self):
        seen = {}
        for given in self.each():
            for twins in (False, True):
                kind = first_weak_kind(*given, twins)
                self.assertEqual(weak_kind(*given, twins=twins), kind, (given, twins))
                seen[kind and kind[0]] = True
        self.assertEqual(set(seen), {None, "change", "swap", "twins"})

    def test_against_unnoticed_kinds(self):
        for base, modulus, weights, reach in self.each():
            if reach < 29:
                kinds = unnoticed_kinds(Rule.weighted(base, modulus, weights), reach)
                others = [kind for kind in kinds if kind[0] != "twins"]
                self.assertEqual(weak_kind(base, modulus, weights, reach, twins=True), kinds[0] if kinds else None)
                self.assertEqual(weak_kind(base, modulus, weights, reach), others[0] if others else None)

    def test_good_weights_have_none(self):
        for base, modulus, places, reach in ((10, 11, 5, 4), (10, 97, 30, 10**39), (36, 199, 30, 3), (10, 10, 9, 0)):
            for twins in (False, True):
                weights = good_weights(base, modulus, places, reach, twins=twins)
                self.assertIsNone(weak_kind(base, modulus, weights, reach, twins=twins))

    def test_by_name(self):
        self.assertEqual(weak_kind(reach=2, weights=(1, 2, 12), modulus=11, base=10), ("swap", 0, 2))
        self.assertIsNone(weak_kind(twins=False, reach=1, weights=(1, 10), modulus=11, base=10))
        self.assertEqual(weak_kind(twins=True, reach=1, weights=(1, 10), modulus=11, base=10), ("twins", 0, 1))

    def test_twins_by_name_only(self):
        with self.assertRaises(TypeError):
            weak_kind(10, 11, (1, 10), 1, True)

    def test_wrong_arguments(self):
        for base in WRONG_BASES:
            self.raises(InvalidBase, weak_kind, base, 11, (1, 2), 1)
        for modulus in WRONG_MODULI:
            self.raises(InvalidModulus, weak_kind, 10, modulus, (1, 2), 1)
        for weights in OTHER_VALUES:
            if weights != (1, 2, 3, 4):
                self.raises(InvalidWeights, weak_kind, 10, 11, weights, 1)
        for weight in NO_INTEGERS:
            self.raises(InvalidWeights, weak_kind, 10, 11, (1, weight), 1)
        for places in (0, 31, 60):
            self.raises(InvalidWeights, weak_kind, 10, 11, (1,) * places, 1)
        for reach in WRONG_REACHES:
            self.raises(InvalidReach, weak_kind, 10, 11, (1, 2), reach)

    def test_several_at_once(self):
        self.raises(InvalidBase, weak_kind, 1, 1, [], -1)
        self.raises(InvalidModulus, weak_kind, 10, 1, [], -1)
        self.raises(InvalidWeights, weak_kind, 10, 11, [1, 2], -1)
        self.raises(InvalidBase, weak_kind, reach=-1, weights=(), modulus=1, base=1, twins=True)

    def test_weights_are_unchanged(self):
        weights = [1, 2, 12]
        for _ in range(2):
            self.raises(InvalidWeights, weak_kind, 10, 11, weights, 2)
            self.assertEqual(weak_kind(10, 11, tuple(weights), 2), ("swap", 0, 2))
        self.assertEqual(weights, [1, 2, 12])


class ExampleTest(unittest.TestCase):
    def test_of_the_document(self):
        seen = [least_divisor(10, 11), least_divisor(10, 100), longest(10, 10), longest(10, 97, twins=True)]
        self.assertEqual(seen, [11, 20, 1, 48])

    def test_of_the_document_for_weights(self):
        seen = [
            len(good_weights(10, 12, 1, 5)), weak_kind(10, 11, (1, 2, 12), 1), weak_kind(10, 11, (1, 2, 12), 2),
        ]
        self.assertEqual(seen, [1, None, ("swap", 0, 2)])

    def test_of_the_document_without_weights(self):
        error = error_of(good_weights, 10, 10, 2, 1)
        self.assertEqual((error.__class__, error.most), (NoWeights, 1))


if __name__ == "__main__":
    unittest.main()
