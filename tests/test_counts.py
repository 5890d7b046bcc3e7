import unittest

import helper
from bandscribe.bands import Band
from bandscribe.counts import count, count_from
from bandscribe.errors import NoPlace
from helper import Refusing


class Counts(Refusing):
    def test_one_by_one(self):
        for signs, barred in helper.small_bands():
            band = Band(signs, barred)
            rows = helper.texts_up_to(signs, 5)
            for length in range(6):
                of_length = [row for row in rows if len(row) == length]
                self.assertEqual(count(band, length), sum(helper.good(barred, row) for row in of_length))
                for place in band.places():
                    told = count_from(band, place, length)
                    self.assertEqual(told, sum(helper.good(barred, place + row) for row in of_length))

    def test_one_by_one_with_more_signs(self):
        for signs, barred in helper.mixed_bands(30):
            band = Band(signs, barred)
            rows = helper.texts_up_to(signs, 4)
            for length in range(5):
                of_length = [row for row in rows if len(row) == length]
                self.assertEqual(count(band, length), sum(helper.good(barred, row) for row in of_length))
                for place in band.places():
                    told = count_from(band, place, length)
                    self.assertEqual(told, sum(helper.good(barred, place + row) for row in of_length))

    def test_length_0(self):
        for signs, barred in helper.small_bands() + helper.mixed_bands():
            band = Band(signs, barred)
            self.assertEqual(count(band, 0), 1)
            self.assertEqual([count_from(band, place, 0) for place in band.places()], [1] * len(band.places()))

    def test_every_length_up_to_200(self):
        for signs, barred in helper.mixed_bands(3):
            band = Band(signs, barred)
            self.assertEqual([count(band, n) for n in range(201)], helper.counts_behind(signs, barred, "", 200))

    def test_length_200(self):
        for signs, barred in helper.mixed_bands():
            band = Band(signs, barred)
            self.assertEqual(count(band, 200), helper.counts_behind(signs, barred, "", 200)[200])
            last = band.places()[-1]
            self.assertEqual(count_from(band, last, 200), helper.counts_behind(signs, barred, last, 200)[200])

    def test_known_numbers(self):
        self.assertEqual(count(Band("ab", []), 200), 2 ** 200)
        self.assertEqual(count(Band("abcd", []), 200), 4 ** 200)
        self.assertEqual(count(Band("abc", ["b"]), 200), 2 ** 200)
        fewer, more = 1, 2
        for length in range(199):
            fewer, more = more, fewer + more
        self.assertEqual(count(Band("ab", ["bb"]), 200), more)
        self.assertEqual(count_from(Band("ab", ["bb"]), "b", 200), fewer)
        self.assertEqual(count(Band("ab", ["ab"]), 200), 201)
        self.assertEqual(count(Band("ab", ["ab", "ab", "ab"]), 200), 201)

    def test_somewhat_beyond_200(self):
        self.assertEqual(count(Band("ab", ["ab"]), 250), 251)

    def test_rows_that_cannot_go_on_for_ever_count(self):
        band = Band("ab", ["a", "bbb"])
        self.assertEqual(band.live(), [])
        self.assertEqual([count(band, length) for length in range(5)], [1, 1, 1, 0, 0])
        self.assertEqual([count_from(band, "b", length) for length in range(4)], [1, 1, 0, 0])
        self.assertEqual([count_from(band, "bb", length) for length in range(3)], [1, 0, 0])
        self.assertEqual(count(Band("ab", ["aa", "ab"]), 200), 2)
        self.assertEqual([count(Band("ab", ["a", "b"]), length) for length in (0, 1, 200)], [1, 0, 0])

    def test_whole_numbers_are_told(self):
        for length in (0, 1, 7):
            for barred in ([], ["a", "b"], ["ab"]):
                self.assertIs(type(count(Band("ab", barred), length)), int)
                self.assertIs(type(count_from(Band("ab", barred), "", length)), int)

    def test_what_is_no_place(self):
        for barred in ([], ["a", "b"], ["ab"], ["abba", "bb"]):
            band = Band("ab", barred)
            for thing in helper.no_places() + ["abba", "bb", "ba"]:
                for length in (0, 1, 200):
                    self.assertEqual(self.refused(NoPlace, count_from, band, thing, length).place, thing)

    def test_a_band_stays_as_it_was(self):
        band = Band("ab", ["abb", "bb"])
        before = [band.places(), band.live(), list(band.barred), count(band, 9)]
        count(band, 200)
        count_from(band, "a", 50)
        count(Band("abc", ["c"]), 9)
        self.assertEqual([band.places(), band.live(), list(band.barred), count(band, 9)], before)


if __name__ == "__main__":
    unittest.main()
