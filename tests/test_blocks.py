import unittest

import helper
from bandscribe.bands import Band
from bandscribe.blocks import blocks_from, check_rate
from bandscribe.errors import NoPlace, NoRate
from helper import Refusing


class LikeAll:
    """A thing that says that it is equal to whatever it is compared with."""

    def __eq__(self, other):
        return True


class Rates(Refusing):
    def test_each_rate_is_taken(self):
        for signs, most in (("ab", 6), ("10", 6), ("abc", 3), ("abcd", 3)):
            for barred in ([], [signs], list(signs), [signs[0] * 5] * 6):
                band = Band(signs, barred)
                for many in range(2, 9):
                    for wide in range(1, most + 1):
                        self.assertIs(check_rate(band, many, wide), True)

    def test_each_other_pair_of_whole_numbers_is_refused(self):
        for signs, most in (("ab", 6), ("abc", 3), ("abcd", 3)):
            for barred in ([], [signs], list(signs)):
                band = Band(signs, barred)
                for many in (-10 ** 9, -2, -1, 0, 1, 9, 10, 64, 10 ** 9, 10 ** 3999):
                    for wide in range(-1, 8):
                        self.refused(NoRate, check_rate, band, many, wide)
                for wide in [-10 ** 9, -1, 0] + list(range(most + 1, 12)) + [64, 10 ** 9, 10 ** 3999]:
                    for many in range(1, 10):
                        self.refused(NoRate, check_rate, band, many, wide)

    def test_barred_words_do_not_make_fewer_rows_of_it(self):
        self.refused(NoRate, check_rate, Band("abc", ["c"]), 2, 4)
        self.refused(NoRate, check_rate, Band("abcd", ["a", "b", "c", "d"]), 2, 4)
        self.assertIs(check_rate(Band("ab", ["a", "b"]), 8, 6), True)

    def test_things_of_other_kinds(self):
        for signs in ("ab", "abc", "abcd"):
            band = Band(signs, ["ab"])
            for thing in helper.no_whole_numbers():
                for other in (2, 1, 3, 0, 10 ** 9):
                    self.refused(NoRate, check_rate, band, thing, other)
                    self.refused(NoRate, check_rate, band, other, thing)
                self.refused(NoRate, check_rate, band, thing, thing)


class Blocks(Refusing):
    def test_one_by_one(self):
        for signs, barred in helper.small_bands() + helper.mixed_bands():
            for order in (signs, signs[::-1]):
                band = Band(order, barred)
                for wide in range(1, helper.most_wide(order) + 1):
                    told = helper.blocks(order, barred, wide)
                    self.assertEqual(list(told), band.live())
                    for place in told:
                        self.assertEqual(blocks_from(band, place, wide), told[place], (order, barred, place, wide))

    def test_the_most_places(self):
        barred = ["aaaab", "baaac", "caaad", "dbbba", "abcda", "bdcba"]
        band = Band("cadb", barred)
        told = helper.blocks("cadb", barred, 3)
        self.assertEqual(len(told), 23)
        for place in told:
            self.assertEqual(blocks_from(band, place, 3), told[place])

    def test_by_hand(self):
        band = Band("ba", ["aab", "bb"])
        self.assertEqual(blocks_from(band, "", 2), [("ba", "a"), ("ab", "b"), ("aa", "aa")])
        self.assertEqual(blocks_from(band, "b", 2), [("ab", "b"), ("aa", "aa")])
        self.assertEqual(blocks_from(band, "aa", 3), [("aaa", "aa")])
        self.assertEqual(blocks_from(Band("ba", []), "", 1), [("b", ""), ("a", "")])

    def test_good_rows_that_lead_to_no_live_place_are_no_blocks(self):
        band = Band("ab", ["aba", "abb"])
        self.assertEqual(band.live(), ["", "a"])
        self.assertEqual(blocks_from(band, "a", 1), [("a", "a")])
        self.assertEqual(blocks_from(band, "", 2), [("aa", "a"), ("ba", "a"), ("bb", "")])

    def test_kinds(self):
        for pair in blocks_from(Band("abc", ["ab", "cc"]), "a", 2):
            self.assertEqual([type(pair)] + [type(part) for part in pair], [tuple, str, str])
        self.assertIs(type(blocks_from(Band("abc", ["ab", "cc"]), "a", 2)), list)

    def test_what_is_no_place(self):
        for barred in ([], ["a", "b"], ["ab"], ["abba", "bb"]):
            band = Band("ab", barred)
            for thing in helper.no_places() + ["abba", "bb", "abb", "ba", "bab"]:
                for wide in (1, 2, 6):
                    self.assertEqual(self.refused(NoPlace, blocks_from, band, thing, wide).place, thing)

    def test_a_thing_that_only_says_it_is_a_place(self):
        thing = LikeAll()
        self.assertIs(self.refused(NoPlace, blocks_from, Band("ab", ["ab"]), thing, 1).place, thing)

    def test_places_that_are_not_live(self):
        seen = 0
        for signs, barred in helper.small_bands() + helper.mixed_bands():
            band = Band(signs, barred)
            for place in band.places():
                if place not in band.live():
                    seen += 1
                    for wide in (1, helper.most_wide(signs)):
                        self.assertEqual(self.refused(NoPlace, blocks_from, band, place, wide).place, place)
        self.assertGreater(seen, 20)
        self.assertEqual(self.refused(NoPlace, blocks_from, Band("ab", ["a", "b"]), "", 1).place, "")
        self.assertEqual(self.refused(NoPlace, blocks_from, Band("ab", ["aba", "abb"]), "ab", 3).place, "ab")

    def test_the_list_is_the_askers_own(self):
        band = Band("ab", ["abb", "bb"])
        first = blocks_from(band, "a", 3)
        kept = list(first)
        self.assertIsNot(blocks_from(band, "a", 3), first)
        first.append("x")
        first[0] = ("y", "z")
        self.assertEqual(blocks_from(band, "a", 3), kept)
        blocks_from(band, "a", 3).clear()
        second = blocks_from(band, "a", 3)
        blocks_from(band, "b", 2)
        blocks_from(Band("ab", []), "", 3)
        self.assertEqual((blocks_from(band, "a", 3), second), (kept, kept))
        self.assertEqual((band.places(), band.live(), band.barred), (["", "a", "ab", "b"], ["", "a", "ab", "b"],
                                                                    ["abb", "bb"]))


if __name__ == "__main__":
    unittest.main()
