import random
import unittest

import helper
from bandscribe.bands import Band
from bandscribe.errors import BandError, Barred, NoPlace, NoRow, NoSigns, NoWord, TooMany
from helper import Refusing

NO_TEXTS = [None, 0, 12, True, False, 1.5, b"ab", [], ["a", "b"], ("a", "b"), {}, {"a": 1, "b": 2}, {"a", "b"},
            frozenset("ab"), object(), str]

# Letters and figures of other scripts: e acute, sharp s, Greek alpha, Cyrillic a, Arabic three, superscript two,
# a full-width a and a full-width one, and a lone surrogate.
OTHER_SIGNS = ["A", "Z", " ", "_", "-", "`", "{", "/", ":", "\n", "\t", "\0", "\x7f", "\u00e9", "\u00df", "\u03b1",
               "\u0430", "\u0663", "\u00b2", "\uff41", "\uff11", "\ud800"]


class Signs(Refusing):
    def test_two_to_four_signs_are_taken_in_their_order(self):
        for signs in ("ab", "ba", "az", "09", "90", "a0", "0a", "zyx", "9z0a", "m5"):
            self.assertEqual(Band(signs, []).signs, signs)

    def test_every_known_sign_is_taken(self):
        for sign in "bcdefghijklmnopqrstuvwxyz0123456789":
            self.assertEqual(Band("a" + sign, [sign]).signs, "a" + sign)

    def test_no_text(self):
        for thing in NO_TEXTS:
            self.refused(NoSigns, Band, thing, [])

    def test_too_few_and_too_many(self):
        for signs in ("", "a", "0", "abcde", "01234", "abcdefghijklmnopqrstuvwxyz"):
            self.refused(NoSigns, Band, signs, [])

    def test_one_sign_twice(self):
        for signs in ("aa", "aba", "abb", "aab", "abca", "0120", "aaaa"):
            self.refused(NoSigns, Band, signs, [])

    def test_other_signs(self):
        for sign in OTHER_SIGNS:
            for signs in ("a" + sign, sign + "b", "abc" + sign):
                self.refused(NoSigns, Band, signs, [])

    def test_ahead_of_the_words_whatever_these_are(self):
        for barred in ([], ["ab"], [""], [None], ["?"], ["a"] * 7, [None] * 100, [[]]):
            for signs in ("", "a", "aa", "abcde", "aB", None, 7, True, ["a", "b"]):
                self.refused(NoSigns, Band, signs, barred)


class Words(Refusing):
    def test_none_to_six_words_are_taken(self):
        words = ["a", "ab", "abc", "abca", "abcab", "c"]
        for many in range(7):
            self.assertEqual(Band("abc", words[:many]).barred, words[:many])

    def test_a_word_twice_and_a_sign_twice(self):
        for barred in (["ab", "ab"], ["a"] * 6, ["aaaaa"], ["aa", "bb", "aa"], ["abab", "abab", "ba"]):
            self.assertEqual(Band("ab", barred).barred, barred)

    def test_more_than_six_things_whatever_they_are(self):
        for thing in ["a", "", "?", "aaaaaa"] + NO_TEXTS:
            for many in (7, 8, 100):
                self.assertEqual(self.refused(TooMany, Band, "ab", [thing] * many).many, many)

    def test_a_thing_that_is_no_word(self):
        no_words = ["", "aaaaaa", "abababababab", "c", "abc", "aB", "A", "a b", " ", "ab\n"] + NO_TEXTS
        no_words.extend("a" + sign for sign in OTHER_SIGNS)
        for thing in no_words:
            for number in range(6):
                barred = ["ab"] * number + [thing] + ["ba"] * (5 - number)
                self.assertEqual(self.refused(NoWord, Band, "ab", barred).number, number)

    def test_the_first_of_several_is_told(self):
        self.assertEqual(self.refused(NoWord, Band, "ab", ["a", "", None, "abc"]).number, 1)
        self.assertEqual(self.refused(NoWord, Band, "ab", [None, ""]).number, 0)
        self.assertEqual(self.refused(NoWord, Band, "01", ["0", "01", "10", "11", "00", "012"]).number, 5)

    def test_known_signs_that_are_not_the_band_s(self):
        self.assertEqual(self.refused(NoWord, Band, "01", ["0", "a"]).number, 1)
        self.assertEqual(self.refused(NoWord, Band, "ab", ["0"]).number, 0)

    def test_longest(self):
        for barred, length in (([], 0), (["a"], 1), (["a", "bbbbb"], 5), (["bab", "a", "b"], 3), (["ab", "ba"], 2)):
            self.assertEqual(Band("ab", barred).longest(), length)


class AskersOwn(Refusing):
    def answers(self, band):
        return [band.signs, band.barred, band.places(), band.live(), band.longest(), band.is_good("abba"),
                band.place_of("ba"), band.led("a", "a"), band.led("a", "b")]

    def test_the_list_handed_in_stays_and_is_not_kept(self):
        barred = ["abb", "bb"]
        band = Band("ab", barred)
        before = self.answers(band)
        self.assertEqual(barred, ["abb", "bb"])
        self.assertIsNot(band.barred, barred)
        barred.append("a")
        barred[0] = "b"
        self.assertEqual(self.answers(band), before)
        self.assertEqual(band.barred, ["abb", "bb"])
        barred.clear()
        self.assertEqual(self.answers(band), before)

    def test_a_refused_list_stays_as_it_was(self):
        for barred in (["ab", None, "x"], ["b"] * 8):
            kept = list(barred)
            with self.assertRaises(BandError):
                Band("ab", barred)
            self.assertEqual(barred, kept)

    def test_lists_that_were_told_may_be_changed(self):
        band = Band("ab", ["abb", "bb"])
        before = self.answers(band)
        for told in (band.places, band.live):
            first = told()
            second = told()
            first.append("x")
            first[0] = "y"
            self.assertNotEqual(first, second)
            told().clear()
            self.assertEqual(told(), second)
        self.assertEqual(self.answers(band), before)

    def test_a_told_list_is_not_changed_by_later_questions(self):
        band = Band("ab", ["ab", "aa"])
        told, lasting = band.places(), band.live()
        band.is_good("bbb")
        self.refused(NoPlace, band.led, "zz", "a")
        self.refused(Barred, band.place_of, "bab")
        self.assertEqual((told, lasting), (["", "a"], [""]))

    def test_two_bands_do_not_disturb_one_another(self):
        first = Band("ab", ["abb", "bb"])
        before = self.answers(first)
        second = Band("abc", ["ac", "ca"])
        self.assertEqual(second.places(), ["", "a", "c"])
        self.assertEqual(self.answers(first), before)
        second.places().append("x")
        self.assertEqual(Band("ab", ["abb", "bb"]).places(), before[2])
        self.assertEqual(second.places(), ["", "a", "c"])

    def test_a_refusal_changes_nothing(self):
        band = Band("ab", ["abb", "bb"])
        before = self.answers(band)
        self.refused(NoRow, band.is_good, "abc")
        self.refused(NoRow, band.place_of, "abc")
        self.refused(Barred, band.place_of, "bb")
        self.refused(NoPlace, band.led, ["a"], "a")
        self.assertEqual(self.answers(band), before)


class Rows(Refusing):
    def test_by_hand(self):
        band = Band("abc", ["ab", "cc"])
        for row in ("", "a", "b", "ba", "acbca", "aaaa", "bbb"):
            self.assertIs(band.is_good(row), True)
        for row in ("ab", "cc", "bab", "acc", "ccab", "aaab"):
            self.assertIs(band.is_good(row), False)

    def test_without_words_all_is_good(self):
        band = Band("ab", [])
        for row in ("", "a", "abba", "ab" * 1000):
            self.assertIs(band.is_good(row), True)
            self.assertEqual(band.place_of(row), "")

    def test_every_short_row(self):
        for signs, barred in helper.small_bands():
            band = Band(signs, barred)
            for row in helper.texts_up_to(signs, 6):
                self.assertIs(band.is_good(row), helper.good(barred, row))
                if helper.good(barred, row):
                    self.assertEqual(band.place_of(row), helper.place_behind(signs, barred, row), (barred, row))
                else:
                    least = helper.shortest_bad(barred, row)
                    self.assertEqual(self.refused(Barred, band.place_of, row).length, least)

    def test_rows_of_mixed_bands(self):
        chance = random.Random(5)
        for signs, barred in helper.mixed_bands():
            band = Band(signs, barred)
            for length in list(range(1, 12)) + [300]:
                row = "".join(chance.choices(signs, k=length))
                self.assertIs(band.is_good(row), helper.good(barred, row))
                if helper.good(barred, row):
                    self.assertEqual(band.place_of(row), helper.place_behind(signs, barred, row), (barred, row))
                else:
                    least = helper.shortest_bad(barred, row)
                    self.assertEqual(self.refused(Barred, band.place_of, row).length, least)

    def test_long_rows(self):
        band = Band("ab", ["aab", "bbb"])
        for many in (100, 1000):
            self.assertIs(band.is_good("ab" * many), True)
            self.assertEqual(band.place_of("ab" * many), "b")
            self.assertEqual(band.place_of("ab" * (many - 1) + "ba"), "a")
        self.assertIs(band.is_good("ba" * 999 + "ab"), False)
        self.assertEqual(self.refused(Barred, band.place_of, "ba" * 999 + "ab").length, 2000)
        self.assertEqual(self.refused(NoRow, band.place_of, "ab" * 999 + "ac").number, 1999)
        self.assertEqual(band.place_of("a" * 2000), "aa")

    def test_other_signs_are_told_first(self):
        band = Band("ab", ["ab"])
        for sign in ["c", "0"] + OTHER_SIGNS:
            for row, number in ((sign, 0), ("a" + sign, 1), ("ab" + sign, 2), ("bab" + sign + "ab" + sign, 3)):
                self.assertEqual(self.refused(NoRow, band.is_good, row).number, number)
                self.assertEqual(self.refused(NoRow, band.place_of, row).number, number)

    def test_the_shortest_bad_beginning(self):
        band = Band("ab", ["abbb", "bb", "aaaaa"])
        for row, length in (("abbb", 3), ("bb", 2), ("aaaaa", 5), ("baaaaab", 6), ("aaaabb", 6), ("abab" * 5 + "b", 21)):
            self.assertEqual(self.refused(Barred, band.place_of, row).length, length)
        self.assertEqual(self.refused(Barred, Band("ab", ["a"]).place_of, "bba").length, 3)


class Places(Refusing):
    def test_by_hand(self):
        for signs, barred, told in (
                ("ab", [], [""]),
                ("ab", ["a"], [""]),
                ("ab", ["a", "b"], [""]),
                ("ab", ["ab", "ab"], ["", "a"]),
                ("ba", ["ba", "ab"], ["", "a", "b"]),
                ("ab", ["abbab"], ["", "a", "ab", "abb", "abba"]),
                ("ab", ["ab", "abbab"], ["", "a"]),
                ("ab", ["bb", "abbab"], ["", "a", "ab", "b"]),
                ("ab", ["b", "aab"], ["", "a", "aa"]),
                ("a0", ["0a0", "a00"], ["", "0", "0a", "a", "a0"]),
                ("ab", ["aba", "abb"], ["", "a", "ab"])):
            self.assertEqual(Band(signs, barred).places(), told)

    def test_as_the_document_says(self):
        for signs, barred in helper.small_bands() + helper.mixed_bands():
            self.assertEqual(Band(signs, barred).places(), helper.places(signs, barred), (signs, barred))

    def test_the_most_places(self):
        barred = ["aaaab", "baaac", "caaad", "dbbba", "abcda", "bdcba"]
        told = Band("abcd", barred).places()
        self.assertEqual(told, helper.places("abcd", barred))
        self.assertEqual(len(told), 23)

    def test_led_as_the_document_says(self):
        for signs, barred in helper.small_bands() + helper.mixed_bands():
            band = Band(signs, barred)
            for place in band.places():
                for sign in signs:
                    self.assertEqual(band.led(place, sign), helper.led(signs, barred, place, sign))

    def test_led_by_hand(self):
        band = Band("ab", ["aab", "bb"])
        for place, sign, end in (("", "a", "a"), ("", "b", "b"), ("a", "a", "aa"), ("a", "b", "b"), ("aa", "a", "aa"),
                                 ("aa", "b", None), ("b", "a", "a"), ("b", "b", None)):
            self.assertEqual(band.led(place, sign), end)

    def test_sign_by_sign(self):
        for signs, barred in helper.small_bands():
            band = Band(signs, barred)
            for row in helper.texts_up_to(signs, 5):
                if not band.is_good(row):
                    continue
                place = ""
                for sign in row:
                    place = band.led(place, sign)
                self.assertEqual(place, band.place_of(row))

    def test_the_place_behind_a_place_is_itself(self):
        for signs, barred in helper.mixed_bands():
            band = Band(signs, barred)
            self.assertEqual([band.place_of(place) for place in band.places()], band.places())

    def test_what_is_no_place(self):
        for barred in ([], ["a", "b"], ["ab"], ["abba", "bb"]):
            band = Band("ab", barred)
            for thing in helper.no_places():
                for sign in "ab":
                    self.assertEqual(self.refused(NoPlace, band.led, thing, sign).place, thing)

    def test_rows_and_words_that_are_no_places(self):
        band = Band("ab", ["abba", "bb"])
        self.assertEqual(band.places(), ["", "a", "ab", "b"])
        for thing in ("abba", "bb", "abb", "ba", "aa", "bab"):
            self.assertEqual(self.refused(NoPlace, band.led, thing, "a").place, thing)

    def test_a_thing_refused_stays_as_it_was(self):
        thing = ["a", ["b"]]
        self.assertEqual(self.refused(NoPlace, Band("ab", ["ab"]).led, thing, "a").place, ["a", ["b"]])
        self.assertEqual(thing, ["a", ["b"]])


class Live(unittest.TestCase):
    def test_all_some_and_none(self):
        for signs, barred, told in (
                ("ab", [], [""]),
                ("ab", ["bb"], ["", "b"]),
                ("ab", ["aa", "bb"], ["", "a", "b"]),
                ("ab", ["aa", "ab"], [""]),
                ("ab", ["aba", "abb"], ["", "a"]),
                ("ab", ["aa", "aba", "abb"], [""]),
                ("ab", ["aa", "aba", "abba", "bbb"], []),
                ("ab", ["a"], [""]),
                ("ab", ["a", "b"], []),
                ("ab", ["a", "bb"], []),
                ("ab", ["a", "bbbbb"], []),
                ("abc", ["a", "b", "c"], []),
                ("abcd", ["a", "b", "c", "d"], []),
                ("abcd", ["a", "b", "c"], [""]),
                ("ba", ["aa", "bb", "ab"], [])):
            self.assertEqual(Band(signs, barred).live(), told, (signs, barred))

    def test_as_the_document_says(self):
        for signs, barred in helper.small_bands() + helper.mixed_bands():
            self.assertEqual(Band(signs, barred).live(), helper.live(signs, barred), (signs, barred))

    def test_each_live_place_leads_to_a_live_one(self):
        for signs, barred in helper.small_bands():
            band = Band(signs, barred)
            for place in band.places():
                goes_on = any(band.led(place, sign) in band.live() for sign in signs)
                self.assertEqual(goes_on, place in band.live())


if __name__ == "__main__":
    unittest.main()
