import random
import unittest

import helper
from bandscribe.bands import Band
from bandscribe.counts import count
from bandscribe.errors import Barred, NoNumber, NoRow
from bandscribe.numbers import number_of, row_at
from helper import Refusing


def turned(signs, barred):
    """The same band with its signs the other way round, so that their order is not that of texts."""
    return signs[::-1], barred


def asked_bands():
    pairs = helper.small_bands()
    return pairs + [turned(*pair) for pair in pairs] + helper.mixed_bands()


class OneByOne(Refusing):
    def test_every_row_of_the_short_lengths(self):
        for signs, barred in asked_bands():
            band = Band(signs, barred)
            for length in range(6 if len(signs) == 2 else 4):
                rows = helper.good_rows(signs, barred, length)
                numbers = range(len(rows))
                self.assertEqual([row_at(band, length, number) for number in numbers], rows, (signs, barred))
                self.assertEqual([number_of(band, row) for row in rows], list(numbers), (signs, barred))
                for number in (len(rows), len(rows) + 1, -1, -len(rows) - 1):
                    self.refused(NoNumber, row_at, band, length, number)

    def test_longer_rows(self):
        for signs, barred, length in (("ba", ["aab", "bb"], 11), ("cab", ["ac", "bbb", "cba"], 7), ("1a0", ["a1"], 7),
                                      ("dbca", ["d", "abca"], 6), ("ab", ["ab"], 12), ("ba", ["aa", "ab"], 9)):
            band = Band(signs, barred)
            rows = helper.good_rows(signs, barred, length)
            self.assertEqual([row_at(band, length, number) for number in range(len(rows))], rows)
            self.assertEqual([number_of(band, row) for row in rows], list(range(len(rows))))

    def test_by_hand(self):
        band = Band("ba", ["ab"])
        self.assertEqual([row_at(band, 3, number) for number in range(4)], ["bbb", "bba", "baa", "aaa"])
        self.assertEqual([number_of(band, row) for row in ("aaa", "baa", "bba", "bbb", "", "b", "a")],
                         [3, 2, 1, 0, 0, 0, 1])

    def test_rows_that_cannot_go_on_are_numbered(self):
        band = Band("ab", ["a", "bbb"])
        self.assertEqual([row_at(band, length, 0) for length in range(3)], ["", "b", "bb"])
        self.assertEqual([number_of(band, row) for row in ("", "b", "bb")], [0, 0, 0])
        self.refused(NoNumber, row_at, band, 3, 0)


class ManyFigures(Refusing):
    def there_and_back(self, band, length, number):
        row = row_at(band, length, number)
        self.assertEqual(len(row), length)
        self.assertTrue(band.is_good(row))
        self.assertEqual(number_of(band, row), number)
        return row

    def test_length_200(self):
        chance = random.Random(9)
        for signs, barred in helper.mixed_bands(30):
            band = Band(signs, barred)
            rows = count(band, 200)
            for number in (rows, rows + 1, rows + 10 ** 120, 10 ** 3999, -1, -rows):
                self.refused(NoNumber, row_at, band, 200, number)
            if rows:
                for number in (0, rows // 2, rows - 1, chance.randrange(rows)):
                    self.there_and_back(band, 200, number)

    def test_known_rows(self):
        band = Band("10", [])
        for number in (0, 1, 2 ** 199, 2 ** 200 - 1, 3 ** 100):
            row = f"{number:0200b}".translate({ord("0"): "1", ord("1"): "0"})
            self.assertEqual(self.there_and_back(band, 200, number), row)
        band = Band("ab", ["ab"])
        self.assertEqual([self.there_and_back(band, 200, number) for number in (0, 1, 199, 200)],
                         ["a" * 200, "b" + "a" * 199, "b" * 199 + "a", "b" * 200])

    def test_the_order_of_long_rows(self):
        chance = random.Random(3)
        for signs, barred in (("ba", ["bb"]), ("b0a", ["0b", "aaa"]), ("dcba", ["abcd", "dd", "ca"])):
            band = Band(signs, barred)
            numbers = sorted(chance.randrange(count(band, 200)) for pick in range(40))
            rows = [self.there_and_back(band, 200, number) for number in numbers]
            self.assertEqual(rows, sorted(rows, key=lambda row: [signs.index(sign) for sign in row]))
            for number in numbers:
                first, second = row_at(band, 200, number - 1), row_at(band, 200, number)
                unlike = min(place for place in range(200) if first[place] != second[place])
                self.assertLess(signs.index(first[unlike]), signs.index(second[unlike]))

    def test_length_0(self):
        for signs, barred in asked_bands():
            band = Band(signs, barred)
            self.assertEqual(row_at(band, 0, 0), "")
            self.assertEqual(number_of(band, ""), 0)
            for number in (1, -1, 2, 10 ** 50):
                self.refused(NoNumber, row_at, band, 0, number)

    def test_rows_of_2000_signs(self):
        band = Band("abcd", ["abc", "dd", "bab", "ccca", "dabca", "aadcb"])
        self.there_and_back(band, 2000, count(band, 2000) - 1)
        self.assertEqual(number_of(band, "a" * 2000), 0)

    def test_two_bands_by_turns(self):
        first, second = Band("ab", ["bb"]), Band("ba", ["bb"])
        alone = [row_at(first, 60, 10 ** 9), row_at(second, 60, 10 ** 9)]
        self.assertNotEqual(alone[0], alone[1])
        for turn in range(3):
            self.assertEqual([row_at(first, 60, 10 ** 9), row_at(second, 60, 10 ** 9)], alone)
            self.assertEqual([number_of(first, alone[0]), number_of(second, alone[1])], [10 ** 9, 10 ** 9])
        rows = [[row for row in helper.good_rows(band.signs, ["bb"], 6)] for band in (first, second)]
        for number in range(len(rows[0])):
            for band, told in zip((first, second), rows):
                self.assertEqual(row_at(band, 6, number), told[number])
                self.assertEqual(number_of(band, told[number]), number)


class Refused(Refusing):
    def test_numbers_of_other_kinds(self):
        for barred in ([], ["ab"], ["a", "b"], ["a", "bbb"]):
            band = Band("ab", barred)
            for thing in helper.no_whole_numbers():
                for length in (0, 1, 2, 7, 200):
                    self.refused(NoNumber, row_at, band, length, thing)

    def test_where_there_are_no_rows(self):
        for signs, barred in (("ab", ["a", "b"]), ("ab", ["aa", "bb", "ab", "ba"]), ("abc", ["a", "b", "cc"])):
            band = Band(signs, barred)
            for length in (2, 3, 200):
                self.assertEqual(count(band, length), 0)
                for number in (0, 1, -1, 10 ** 90):
                    self.refused(NoNumber, row_at, band, length, number)

    def test_a_refused_thing_stays_as_it_was(self):
        things = [[1, [2]], {1: [2]}]
        for thing in things:
            self.refused(NoNumber, row_at, Band("ab", []), 3, thing)
        self.assertEqual(things, [[1, [2]], {1: [2]}])

    def test_other_signs_are_told_first(self):
        band = Band("ab", ["ab"])
        for sign in ("c", "0", "A", " ", "\n", "\u00e9", "\u0430", "\ud800"):
            for row, number in ((sign, 0), ("a" + sign, 1), ("ab" + sign, 2), ("bab" + sign + "ab" + sign, 3),
                                ("a" * 199 + sign, 199)):
                self.assertEqual(self.refused(NoRow, number_of, band, row).number, number)

    def test_the_shortest_bad_beginning(self):
        for signs, barred in helper.small_bands():
            band = Band(signs, barred)
            for row in helper.rows_of(signs, 5):
                if not helper.good(barred, row):
                    told = self.refused(Barred, number_of, band, row).length
                    self.assertEqual(told, helper.shortest_bad(barred, row))
        band = Band("ab", ["abbb", "bb", "aaaaa"])
        for row, length in (("abbb", 3), ("baaaaab", 6), ("ab" * 99 + "bb", 199), ("ab" * 99 + "abb", 201)):
            self.assertEqual(self.refused(Barred, number_of, band, row).length, length)

    def test_whole_numbers_and_texts_are_told(self):
        for barred in ([], ["ab"], ["b"]):
            band = Band("ab", barred)
            for row in ("", "a", "aaa"):
                self.assertIs(type(number_of(band, row)), int)
                self.assertIs(type(row_at(band, len(row), 0)), str)

    def test_a_band_stays_as_it_was(self):
        band = Band("ab", ["abb", "bb"])
        before = [band.signs, list(band.barred), band.places(), band.live(), count(band, 9), row_at(band, 9, 4)]
        number_of(band, "aba")
        row_at(band, 50, 7)
        self.refused(NoNumber, row_at, band, 3, 99)
        self.refused(Barred, number_of, band, "bb")
        self.assertEqual([band.signs, list(band.barred), band.places(), band.live(), count(band, 9),
                          row_at(band, 9, 4)], before)


if __name__ == "__main__":
    unittest.main()
