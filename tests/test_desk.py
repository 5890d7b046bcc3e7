import random
import unittest

import helper
from bandscribe.bands import Band
from bandscribe.counts import count
from bandscribe.desk import Desk
from bandscribe.errors import (Barred, NoBand, NoData, NoForm, NoLength, NoNumber, NoRate, NoRow, NoSigns, NoWord,
                               NoWriter, TooMany)
from bandscribe.numbers import number_of, row_at
from bandscribe.readers import Reader
from bandscribe.writers import Writer
from helper import Refusing

SIXTY = "9" * 60
# Rows of another form, whatever stands.
NO_FORMS = [
    "", " ", "  ", "\t", "x", "ok", "none", "band", "Band ab", "BAND ab", " band ab", "bands ab", "band\tab", "band\nab",
    "\tband ab", "count", "count ", "count  ", "count 1 ", "count 1 2", "count  1", " count 1", "count\t1", "count 1\t",
    "count 1\n", "row", "row 1", "row 1 ", "row 1 0 ", "row 1 0 0", "row  1 0", "row 1  0", "row  ", "number", "number a b",
    "number a ", "number  a", "rate", "rate 2", "rate 2 ", "rate 2 1 ", "rate 2 1 1", "rate  2 1", "rate 2  1", "rate  ",
    "write ", "write  ", "write 0 ", "write  0", "write 0  0", "write a", "write 0 a", "write -", "write\t0", "read",
    "read a b", "read a ", "read  a", "touched", "touched 1", "touched 1 ", "touched 1 0 ", "touched 1 0 0", "touched  1 0",
    "touched 1  0", "touched  ", "writer 0", "plan", "write,0", "count 201", "count 1000", "count " + SIXTY, "row 201 0",
    "row 1000 0", "row " + SIXTY + " 0", "write 0\t0", "start", "say count 1"]
# What is no number, though much of it is one for Python.
NO_NUMBERS = [
    "", "00", "01", "007", "0" * 60, "+1", "-1", "-0", "+0", "1_0", "1.0", "1e1", "0x1", "1a", "a", "x", "\t1", "1\t", "1\n",
    "\n1", "1,0", "\u0661", "\u00b2", "\uff11", "1\u0660", "\u0967", SIXTY + "9", "1" + "0" * 60, "9" * 5000, "-",
    "True", "None", "\u00a01", "1\u2003"]


def told(*rows):
    desk = Desk()
    for row in rows:
        desk.say(row)
    return desk


class Bands(Refusing):
    def test_ok(self):
        desk = Desk()
        for row in ("band ab", "band ab bb", "band ba ab bbb aaaaa", "band 0z9a 0 0 0 0 0 0", "band 09"):
            self.assertEqual(desk.say(row), "ok")

    def test_the_band_stands(self):
        desk = told("band ab bb")
        self.assertEqual(desk.say("count 3"), "5")
        self.assertEqual(desk.say("band ab"), "ok")
        self.assertEqual(desk.say("count 3"), "8")
        self.assertEqual(desk.say("band ba bb aab"), "ok")
        self.assertEqual(desk.say("row 2 0"), "ba")

    def test_refused_as_a_band_is(self):
        for row in ("band ", "band  ", "band  bb", "band a", "band aa", "band abcde", "band aB", "band a?", "band a\tb",
                    "band ab\t", "band \u0661a", "band a-"):
            self.refused(NoSigns, Desk().say, row)
        for row, many in (("band ab a a a a a a a", 7), ("band ab" + " x" * 9, 9), ("band ab" + " " * 8, 8)):
            self.assertEqual(self.refused(TooMany, Desk().say, row).many, many)
        for row, number in (("band ab ", 0), ("band ab bb ", 1), ("band ab  bb", 0), ("band ab bb  c", 1),
                            ("band ab c", 0), ("band ab a b ac", 2), ("band ab aaaaaa", 0), ("band ab a\t", 0)):
            self.assertEqual(self.refused(NoWord, Desk().say, row).number, number)


class Counted(Refusing):
    def test_count(self):
        for signs, barred in helper.small_bands()[::5] + helper.mixed_bands(20):
            desk = told(" ".join(["band", signs] + barred))
            counts = helper.counts_behind(signs, barred, "", 200)
            for length in (0, 1, 2, 5, 17, 199, 200):
                self.assertEqual(desk.say(f"count {length}"), str(counts[length]))

    def test_row_and_number(self):
        for signs, barred in helper.small_bands()[::5] + helper.mixed_bands(20):
            desk = told(" ".join(["band", signs] + barred))
            rows = helper.good_rows(signs, barred, 4)
            self.assertEqual([desk.say(f"row 4 {number}") for number in range(len(rows))], rows)
            self.assertEqual([desk.say("number " + row) for row in rows], [str(number) for number in range(len(rows))])
            self.refused(NoNumber, desk.say, f"row 4 {len(rows)}")

    def test_long_rows(self):
        desk, band = told("band ba bb aaa"), Band("ba", ["bb", "aaa"])
        for length in (60, 200):
            for number in (0, 1, count(band, length) // 3, count(band, length) - 1):
                row = row_at(band, length, number)
                self.assertEqual(desk.say(f"row {length} {number}"), row)
                self.assertEqual(desk.say(f"number {row}"), str(number))
                self.assertEqual(number_of(band, row), number)

    def test_the_empty_row(self):
        desk = told("band ab a b")
        self.assertEqual((desk.say("row 0 0"), desk.say("number "), desk.say("count 0")), ("", "0", "1"))
        self.refused(NoNumber, desk.say, "row 0 1")
        self.refused(NoNumber, desk.say, "row 1 0")

    def test_numbers_of_sixty_figures(self):
        desk = told("band abcd")
        for number in (SIXTY, "1" + "0" * 59):
            self.assertEqual(desk.say("number " + desk.say(f"row 200 {number}")), number)
            self.refused(NoNumber, desk.say, "row 3 " + number)
            self.refused(NoForm, desk.say, f"row 200 {number}0")

    def test_refused_as_told(self):
        desk = told("band ab bb")
        self.assertEqual(self.refused(NoRow, desk.say, "number abxc").number, 2)
        self.assertEqual(self.refused(NoRow, desk.say, "number bb\t").number, 2)
        self.assertEqual(self.refused(NoRow, desk.say, "number 0").number, 0)
        self.assertEqual(self.refused(Barred, desk.say, "number abba").length, 3)
        self.refused(NoNumber, desk.say, "row 3 5")


class Rates(Refusing):
    def test_each_answer(self):
        seen = set()
        for signs, barred, many, wide in helper.drawn_rates(150, 23) + helper.PLANNED:
            desk = told(" ".join(["band", signs] + barred))
            found = helper.outcome(signs, barred, many, wide)
            answer = {"plan": "ok", "Open": "open"}.get(found[0]) or "scarce {} {}".format(*found[1:])
            self.assertEqual(desk.say(f"rate {many} {wide}"), answer)
            seen.add(found[0])
        self.assertEqual(seen, {"plan", "Open", "Scarce"})

    def test_by_hand(self):
        desk = told("band ab bb")
        self.assertEqual(desk.say("rate 4 3"), "ok")
        self.assertEqual(desk.say("rate 5 3"), "scarce 2 21")
        desk = told("band ab aab")
        self.assertEqual(desk.say("rate 7 4"), "open")
        desk = told("band ab a b")
        self.assertEqual(desk.say("rate 2 1"), "scarce 1 0")

    def test_no_rate(self):
        desk = told("band abc")
        for row in ("rate 0 1", "rate 1 1", "rate 9 1", "rate 2 0", "rate 2 4", "rate 2 7", "rate " + SIXTY + " 1",
                    "rate 2 " + SIXTY, "rate 0 0"):
            self.refused(NoRate, desk.say, row)
            self.refused(NoWriter, desk.say, "write")

    def test_a_writer_in_the_place_of_an_earlier_one(self):
        desk = told("band ab bb", "rate 4 3", "rate 2 2")
        writer = Writer(Band("ab", ["bb"]), 2, 2)
        self.assertEqual(desk.say("write 1 0"), writer.write([1, 0]))
        self.assertEqual(self.refused(NoData, desk.say, "write 1 2 3").number, 1)
        self.assertEqual(desk.say("rate 4 3"), "ok")
        self.assertEqual(desk.say("write 1 2 3"), Writer(Band("ab", ["bb"]), 4, 3).write([1, 2, 3]))

    def test_an_earlier_writer_stays(self):
        for band, rates in (("band ab bb", ("rate 5 3", "rate 8 1")), ("band ab aab", ("rate 7 4", "rate 8 2"))):
            desk = told(band, "rate 2 2")
            row = desk.say("write 1 0 1")
            answers = [desk.say(rate).split(" ")[0] for rate in rates]
            self.assertEqual(answers, ["scarce", "scarce"] if "aab" not in band else ["open", "scarce"])
            self.refused(NoRate, desk.say, "rate 9 9")
            self.assertEqual((desk.say("write 1 0 1"), desk.say("read " + row)), (row, "1 0 1"))

    def test_none_where_the_first_is_scarce_or_open(self):
        for band, rate in (("band ab bb", "rate 5 3"), ("band ab aab", "rate 7 4")):
            desk = told(band, rate)
            for row in ("write", "read ab", "touched 3 0"):
                self.refused(NoWriter, desk.say, row)


class Writing(Refusing):
    def test_as_the_writer_and_reader(self):
        chance = random.Random(24)
        for signs, barred, many, wide in helper.PLANNED:
            desk = told(" ".join(["band", signs] + barred), f"rate {many} {wide}")
            writer = Writer(Band(signs, barred), many, wide)
            reader = Reader(writer)
            for length in (0, 1, 2, 9):
                data = [chance.randrange(many) for word in range(length)]
                row = desk.say(" ".join(["write"] + [str(word) for word in data]))
                self.assertEqual(row, writer.write(data))
                self.assertEqual(desk.say("read " + row), " ".join(str(word) for word in data) or "none")
                for number in {0, len(row) // 2, len(row) - 1} & set(range(len(row))):
                    spoilt = row[:number] + signs.replace(row[number], "")[0] + row[number + 1:]
                    things = ["-" if thing is None else str(thing) for thing in reader.read(spoilt)]
                    self.assertEqual(desk.say("read " + spoilt), " ".join(things) or "none")
                    touched = [str(thing) for thing in reader.touched(len(row), number)]
                    self.assertEqual(desk.say(f"touched {len(row)} {number}"), " ".join(touched) or "none")

    def test_150_words(self):
        chance = random.Random(25)
        desk = told("band ab bb", "rate 4 3")
        data = " ".join(str(chance.randrange(4)) for word in range(150))
        self.assertEqual(desk.say("read " + desk.say("write " + data)), data)

    def test_strokes_for_none(self):
        desk = told("band ab bb", "rate 4 3")
        size = len(desk.say("write 0 0 0"))
        self.assertEqual(desk.say("read " + "b" * size), "- - -")

    def test_none_where_there_are_none(self):
        desk = told("band ab", "rate 2 1")
        row = desk.say("write")
        self.assertEqual(desk.say("read " + row), "none")
        desk = told("band ab bb", "rate 4 3")
        row = desk.say("write")
        self.assertEqual(desk.say("read " + row), "none")
        self.assertEqual(desk.say(f"touched {len(row)} 0"), "none")

    def test_a_row_of_sixty_figures(self):
        desk = told("band ab", "rate 2 1")
        lead = len(desk.say("write"))
        self.assertEqual(desk.say(f"touched {SIXTY} {int(SIXTY) - 1}"), str(int(SIXTY) - 1 - lead))
        self.refused(NoNumber, desk.say, f"touched {SIXTY} {SIXTY}")
        self.refused(NoForm, desk.say, f"touched {SIXTY}9 0")
        self.refused(NoForm, desk.say, f"touched {SIXTY} {SIXTY}9")

    def test_refused_as_told(self):
        desk = told("band ab bb", "rate 4 3")
        row = desk.say("write 1 2 3")
        for data, number in (("4", 0), ("0 1 4 9", 2), ("0 " + SIXTY, 1)):
            self.assertEqual(self.refused(NoData, desk.say, "write " + data).number, number)
        self.assertEqual(self.refused(NoRow, desk.say, "read " + row + "x").number, len(row))
        self.assertEqual(self.refused(NoRow, desk.say, "read \t").number, 0)
        self.assertEqual(self.refused(NoLength, desk.say, "read " + row + "a").length, len(row) + 1)
        self.assertEqual(self.refused(NoLength, desk.say, "read ").length, 0)
        self.assertEqual(self.refused(NoLength, desk.say, f"touched {len(row) + 1} 0").length, len(row) + 1)
        self.assertEqual(self.refused(NoLength, desk.say, f"touched 0 {SIXTY}").length, 0)
        self.refused(NoNumber, desk.say, f"touched {len(row)} {len(row)}")

    def test_the_empty_row_is_read(self):
        desk = told("band ab", "rate 2 1")
        if desk.say("write") == "":
            self.assertEqual(desk.say("read "), "none")


class Forms(Refusing):
    def test_other_forms(self):
        desks = [Desk(), told("band ab bb"), told("band ab bb", "rate 4 3")]
        for row in NO_FORMS:
            for desk in desks:
                self.refused(NoForm, desk.say, row)

    def test_no_numbers(self):
        desks = [Desk(), told("band ab bb"), told("band ab bb", "rate 4 3")]
        for word in NO_NUMBERS:
            for row in (f"count {word}", f"row {word} 0", f"row 1 {word}", f"rate {word} 3", f"rate 4 {word}",
                        f"write {word}", f"write 0 {word} 0", f"touched {word} 0", f"touched 9 {word}"):
                for desk in desks:
                    self.refused(NoForm, desk.say, row)

    def test_lengths_up_to_200(self):
        desk = told("band ab bb")
        for length in ("0", "9", "10", "199", "200"):
            desk.say("count " + length)
            desk.say(f"row {length} 0")
        for length in ("201", "202", "999", "2000", SIXTY):
            self.refused(NoForm, desk.say, "count " + length)
            self.refused(NoForm, desk.say, f"row {length} 0")
            self.refused(NoForm, Desk().say, f"row {length} {SIXTY}")

    def test_no_band_ahead_of_all_but_the_form(self):
        for row in ("count 1", "count 200", "row 1 0", "row 0 " + SIXTY, "number ", "number ab", "number \t?", "rate 2 1",
                    "rate 0 0", "write", "write 9", "write " + SIXTY, "read ", "read ?", "touched 0 0", "touched 9 99"):
            self.refused(NoBand, Desk().say, row)

    def test_no_band_where_it_was_refused(self):
        desk = Desk()
        self.refused(NoSigns, desk.say, "band a")
        self.refused(NoBand, desk.say, "count 1")
        self.refused(NoWord, desk.say, "band ab c")
        self.refused(NoBand, desk.say, "rate 2 1")

    def test_no_writer_ahead_of_the_rest(self):
        desk = told("band ab bb")
        for row in ("write", "write 9", "write " + SIXTY, "read ", "read ?", "read bb", "touched 0 0", "touched 9 99",
                    "touched 1 " + SIXTY):
            self.refused(NoWriter, desk.say, row)

    def test_a_band_told_anew_leaves_no_writer(self):
        desk = told("band ab bb", "rate 4 3", "write 1", "band ab bb")
        for row in ("write 1", "read ab", "touched 3 0"):
            self.refused(NoWriter, desk.say, row)
        self.assertEqual(desk.say("rate 4 3"), "ok")
        desk.say("write 1")


class Unchanged(Refusing):
    def test_what_is_refused_changes_nothing(self):
        desk = told("band ba bb", "rate 4 3")
        before = [desk.say(row) for row in ("count 9", "row 4 3", "number abab", "write 1 2 3", "write")]
        rows = NO_FORMS + ["band a", "band ab c", "band ab a a a a a a a", "band ", "count x", "row 1 9", "number bb",
                           "number c", "rate 1 1", "rate 9 9", "write 4", "write 0 " + SIXTY, "read ?", "read a",
                           "touched 1 0", "touched 9 9"]
        for row in rows:
            with self.assertRaises(ValueError):
                desk.say(row)
            after = [desk.say(row) for row in ("count 9", "row 4 3", "number abab", "write 1 2 3", "write")]
            self.assertEqual(after, before, row)
        self.assertEqual(desk.say("read " + before[3]), "1 2 3")

    def test_two_desks_by_turns(self):
        first, second = Desk(), Desk()
        self.assertEqual(first.say("band ab bb"), "ok")
        self.refused(NoBand, second.say, "count 2")
        self.assertEqual(second.say("band abc"), "ok")
        self.assertEqual((first.say("count 2"), second.say("count 2")), ("3", "9"))
        self.assertEqual(first.say("rate 4 3"), "ok")
        self.refused(NoWriter, second.say, "write 0")
        self.assertEqual(second.say("rate 3 1"), "ok")
        rows = first.say("write 1 2 3"), second.say("write 1 2 0 1")
        self.assertEqual((first.say("read " + rows[0]), second.say("read " + rows[1])), ("1 2 3", "1 2 0 1"))
        first.say("band ba")
        self.assertEqual(second.say("read " + rows[1]), "1 2 0 1")
        self.refused(NoWriter, first.say, "write 0")

    def test_answers_are_texts(self):
        desk = Desk()
        for row in ("band ab bb", "count 3", "row 0 0", "row 3 2", "number aba", "rate 4 3", "rate 5 3", "write", "write 1"):
            self.assertIs(type(desk.say(row)), str)


if __name__ == "__main__":
    unittest.main()
