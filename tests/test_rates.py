import unittest

import helper
from bandscribe.bands import Band
from bandscribe.errors import NoRate
from bandscribe.rates import fits, greatest, scarce
from helper import Refusing


def asked_bands():
    return helper.small_bands() + helper.mixed_bands(40)


# Each with a rate for which the greatest weights are unlike at its places, and the least most at which they are not
# all noughts.
UNEVEN = [("ab", ["bb"], 4, 3, 2), ("ab", ["aab"], 7, 5, 1), ("ab", ["aaa"], 3, 2, 1), ("0a", ["a0a"], 3, 2, 4),
          ("zab", ["zab"], 8, 2, 5), ("ab", ["bab", "bba"], 2, 2, 2), ("z5", ["zz5z"], 6, 3, 4),
          ("a95z", ["a9z", "595a5", "5", "z5aa"], 8, 2, 5), ("0ba", ["aa", "000"], 6, 2, 2),
          ("50", ["00055"], 7, 3, 8)]


class Fits(Refusing):
    def test_all_small_weights(self):
        for signs, barred, many, wide, least in UNEVEN:
            band = Band(signs, barred)
            told = helper.blocks(signs, barred, wide)
            for asked in range(max(2, many - 1), min(8, many + 1) + 1):
                for weights in helper.all_weights(band.live(), 3):
                    self.assertIs(fits(band, asked, wide, weights), helper.weights_fit(told, asked, weights))

    def test_small_bands(self):
        for signs, barred in asked_bands():
            band = Band(signs, barred)
            for many, wide in ((2, 1), (2, 2), (3, 2), (5, 3)):
                told = helper.blocks(signs, barred, wide)
                some = helper.all_weights(band.live()[:3], 2)
                for number, weights in enumerate(some):
                    weights = {place: weights.get(place, number % 3) for place in band.live()}
                    self.assertIs(fits(band, many, wide, weights), helper.weights_fit(told, many, weights))

    def test_just_so_and_one_more(self):
        band = Band("ab", ["bb"])
        # Behind "" three blocks of three end in "" and two in "b"; behind "b" two and one.
        for many, empty, behind_b, told in (
                (4, 2, 1, True), (4, 3, 1, False), (4, 2, 2, False), (4, 3, 2, True), (4, 1, 1, False), (4, 1, 0, False),
                (3, 1, 0, True), (3, 1, 1, True), (3, 0, 1, False), (5, 1, 1, False), (2, 0, 0, True), (3, 10, 10, True),
                (3, 10, 11, False), (4, 8, 5, True), (4, 8, 6, False), (4, 9, 5, True), (4, 10, 5, True),
                (4, 11, 5, False)):
            self.assertIs(fits(band, many, 3, {"": empty, "b": behind_b}), told, (many, empty, behind_b))

    def test_large_weights(self):
        band = Band("ab", ["bb"])
        for size in (10 ** 30, 10 ** 3000):
            self.assertIs(fits(band, 4, 3, {"": 2 * size, "b": size}), True)
            self.assertIs(fits(band, 4, 3, {"": 2 * size + 1, "b": size}), False)
            self.assertIs(fits(band, 4, 3, {"": 2 * size, "b": size + 1}), True)
            self.assertIs(fits(band, 4, 3, {"": 3 * size, "b": 2 * size}), True)
            self.assertIs(fits(band, 4, 3, {"": 3 * size, "b": 2 * size + 1}), False)

    def test_noughts_fit_always(self):
        for signs, barred in asked_bands():
            band = Band(signs, barred)
            for many, wide in helper.rates_of(signs):
                self.assertIs(fits(band, many, wide, {place: 0 for place in band.live()}), True)

    def test_without_live_places(self):
        for barred in (["a", "b"], ["a", "bbb"], ["aa", "ab", "bb"]):
            self.assertIs(fits(Band("ab", barred), 8, 1, {}), True)

    def test_the_weights_handed_in_stay(self):
        band = Band("ab", ["bb"])
        for weights in ({"b": 1, "": 2}, {"": 5, "b": 0}):
            kept = list(weights.items())
            fits(band, 4, 3, weights)
            self.assertEqual(list(weights.items()), kept)

    def test_the_order_of_the_weights_is_nothing(self):
        self.assertIs(fits(Band("ab", ["bb"]), 4, 3, {"b": 1, "": 2}), True)
        self.assertIs(fits(Band("ab", ["bb"]), 4, 3, {"b": 2, "": 1}), False)


class Greatest(Refusing):
    def greatest_of(self, band, told, many, most):
        """By all weights gone through: at each place the most that any weights that fit have there."""
        fitting = [weights for weights in helper.all_weights(band.live(), most)
                   if helper.weights_fit(told, many, weights)]
        return {place: max(weights[place] for weights in fitting) for place in band.live()}

    def test_all_weights_gone_through(self):
        for signs, barred in helper.small_bands() + helper.mixed_bands(20):
            band = Band(signs, barred)
            for many, wide in helper.rates_of(signs):
                if many in (2, 3, 5, 7):
                    most = {0: 4, 1: 4, 2: 3, 3: 2, 4: 1}.get(len(band.live()), 0)
                    if most:
                        told = helper.blocks(signs, barred, wide)
                        self.assertEqual(greatest(band, many, wide, most), self.greatest_of(band, told, many, most))

    def test_each_most_from_1_to_8(self):
        for signs, barred, many, wide, least in UNEVEN:
            band = Band(signs, barred)
            told = helper.blocks(signs, barred, wide)
            for most in range(1, 9):
                found = greatest(band, many, wide, most)
                self.assertEqual(found, self.greatest_of(band, told, many, most), (signs, barred, most))
                self.assertEqual(any(found.values()), most >= least)
            self.assertGreater(len(set(found.values())), 1)

    def test_by_hand(self):
        band = Band("ab", ["bb"])
        told = [greatest(band, 4, 3, most) for most in range(1, 9)]
        self.assertEqual([(weights[""], weights["b"]) for weights in told],
                         [(0, 0), (2, 1), (3, 2), (4, 2), (5, 3), (6, 4), (7, 4), (8, 5)])
        self.assertEqual(greatest(Band("ab", []), 4, 2, 8), {"": 8})
        self.assertEqual(greatest(Band("ab", []), 5, 2, 8), {"": 0})
        self.assertEqual(greatest(Band("ab", ["b"]), 2, 1, 3), {"": 0})

    def test_many_places(self):
        for signs, barred in helper.mixed_bands():
            band = Band(signs, barred)
            for many, wide in helper.rates_of(signs):
                told = helper.blocks(signs, barred, wide)
                for most in (1, 8):
                    found = greatest(band, many, wide, most)
                    self.assertEqual(list(found), band.live())
                    self.assertTrue(all(type(weight) is int and 0 <= weight <= most for weight in found.values()))
                    self.assertTrue(helper.weights_fit(told, many, found))
                    # Nothing that fits is greater, so not this either, unless it is no greater.
                    raised = {place: min(weight + 1, most) for place, weight in found.items()}
                    self.assertTrue(raised == found or not helper.weights_fit(told, many, raised))

    def test_without_live_places(self):
        for signs, barred in (("ab", ["a", "b"]), ("ab", ["a", "bbb"]), ("abc", ["a", "b", "c"])):
            for most in range(1, 9):
                self.assertEqual(greatest(Band(signs, barred), 2, 1, most), {})

    def test_the_dict_is_the_askers_own(self):
        band = Band("ab", ["bb"])
        first = greatest(band, 4, 3, 2)
        first[""] = 99
        first["x"] = 1
        self.assertEqual(greatest(band, 4, 3, 2), {"": 2, "b": 1})
        second = greatest(band, 4, 3, 2)
        greatest(band, 4, 3, 8)
        greatest(Band("ab", ["aa"]), 4, 3, 8)
        self.assertEqual(second, {"": 2, "b": 1})
        second.clear()
        self.assertEqual(greatest(band, 4, 3, 2), {"": 2, "b": 1})
        empty = greatest(Band("ab", ["a", "b"]), 2, 1, 1)
        empty[""] = 1
        self.assertEqual(greatest(Band("ab", ["a", "b"]), 2, 1, 1), {})


class ScarceLengths(Refusing):
    def least(self, counts, many, wide, most):
        lengths = [length for length in range(1, most + 1) if counts[length * wide] < many ** length]
        return lengths[0] if lengths else None

    def test_against_rows_counted(self):
        for signs, barred in asked_bands():
            band = Band(signs, barred)
            counts = helper.counts_behind(signs, barred, "", 24 * 6)
            for many, wide in helper.rates_of(signs):
                told = scarce(band, many, wide, 24)
                self.assertEqual(told, self.least(counts, many, wide, 24), (signs, barred, many, wide))
                for most in (1, 7):
                    self.assertEqual(scarce(band, many, wide, most), self.least(counts, many, wide, most))

    def test_each_most(self):
        for signs, barred, many, wide, least in (
                ("ab", ["aab", "aba"], 7, 5, 23), ("ab", ["aaa", "aab"], 7, 4, 18), ("ab", ["aaa", "abb"], 2, 2, 11),
                ("b9", ["9b99", "b99b", "bb99b", "b9b9"], 3, 2, 19), ("ab", ["ab"], 2, 1, 2), ("ab", [], 3, 1, 1)):
            band = Band(signs, barred)
            for most in range(1, 25):
                self.assertEqual(scarce(band, many, wide, most), least if least <= most else None)

    def test_rows_one_by_one(self):
        for signs, barred in helper.small_bands():
            band = Band(signs, barred)
            for many in (2, 3):
                for wide in (1, 2):
                    counts = [len(helper.good_rows(signs, barred, length)) for length in range(4 * wide + 1)]
                    self.assertEqual(scarce(band, many, wide, 4), self.least(counts, many, wide, 4))

    def test_as_many_rows_as_data_are_not_too_few(self):
        for signs, many, wide in (("ab", 2, 1), ("ab", 4, 2), ("ab", 8, 3), ("abc", 3, 1), ("abcd", 4, 1)):
            self.assertIsNone(scarce(Band(signs, []), many, wide, 24))
            self.assertIsNotNone(scarce(Band(signs, [signs]), many, wide, 24))
        self.assertIsNone(scarce(Band("abcd", ["a", "b"]), 2, 1, 24))
        self.assertEqual(scarce(Band("ab", ["b"]), 2, 1, 24), 1)
        self.assertEqual(scarce(Band("ab", ["a", "b"]), 2, 1, 1), 1)

    def test_none_need_be_scarce_where_only_noughts_fit(self):
        band = Band("ab", ["aab"])
        self.assertIsNone(scarce(band, 7, 4, 24))
        self.assertEqual(set(greatest(band, 7, 4, 8).values()), {0})

    def test_where_a_length_is_scarce_only_noughts_fit(self):
        seen = 0
        for signs, barred in asked_bands():
            band = Band(signs, barred)
            for many, wide in helper.rates_of(signs):
                if scarce(band, many, wide, 24) is not None:
                    seen += 1
                    for most in (1, 3, 8):
                        self.assertEqual(greatest(band, many, wide, most), {place: 0 for place in band.live()})
        self.assertGreater(seen, 1000)


class NoRates(Refusing):
    def test_each_refuses(self):
        whole = [(many, 1) for many in (1, 0, -1, 9, 10 ** 9)] + [(2, wide) for wide in (0, -1, 7, 10 ** 9, 10 ** 3999)]
        others = [(thing, 1) for thing in helper.no_whole_numbers()]
        others.extend((2, thing) for thing in helper.no_whole_numbers())
        others.extend((thing, thing) for thing in helper.no_whole_numbers())
        for barred in ([], ["bb"], ["a", "b"]):
            band = Band("ab", barred)
            weights = {place: 1 for place in band.live()}
            for many, wide in whole + others:
                self.refused(NoRate, fits, band, many, wide, weights)
                self.refused(NoRate, greatest, band, many, wide, 8)
                self.refused(NoRate, scarce, band, many, wide, 24)

    def test_more_than_64_rows(self):
        for signs in ("abc", "abcd"):
            for barred in ([], [signs[0]], list(signs)):
                band = Band(signs, barred)
                weights = {place: 1 for place in band.live()}
                for wide in (4, 5, 6):
                    self.refused(NoRate, fits, band, 2, wide, weights)
                    self.refused(NoRate, greatest, band, 2, wide, 1)
                    self.refused(NoRate, scarce, band, 2, wide, 1)

    def test_a_band_stays_as_it_was(self):
        band = Band("ab", ["abb", "bb"])
        before = [band.signs, list(band.barred), band.places(), band.live()]
        fits(band, 2, 2, {place: 1 for place in band.live()})
        greatest(band, 2, 2, 8)
        scarce(band, 2, 2, 24)
        self.refused(NoRate, scarce, band, 1, 1, 24)
        self.assertEqual([band.signs, list(band.barred), band.places(), band.live()], before)


if __name__ == "__main__":
    unittest.main()
