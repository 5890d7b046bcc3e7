"""The promise over the whole, and what holds everywhere."""

import copy
import random
import unittest

import helper
from bandscribe import errors
from bandscribe.bands import Band
from bandscribe.blocks import blocks_from
from bandscribe.counts import count
from bandscribe.desk import Desk
from bandscribe.errors import BandError, Open, Scarce
from bandscribe.numbers import number_of, row_at
from bandscribe.plans import plan_of
from bandscribe.rates import greatest, scarce
from bandscribe.readers import Reader
from bandscribe.sheets import Sheet, first_sheet, split
from bandscribe.writers import Writer
from helper import Refusing


class TheWhole(Refusing):
    def one_of_three(self, band, many, wide):
        """The writer, or None; either way just one of the three is told, and rightly."""
        found = []
        for make in (plan_of, Writer):
            try:
                made = make(band, many, wide)
                found.append("writer")
            except Scarce as error:
                found.append("scarce")
                self.assertLess(error.rows, many ** error.length)
                self.assertEqual(error.rows, count(band, error.length * wide))
                self.assertEqual(scarce(band, many, wide, 24), error.length)
                self.assertFalse(any(greatest(band, many, wide, 8).values()))
            except Open:
                found.append("open")
                self.assertIsNone(scarce(band, many, wide, 24))
        self.assertEqual(found[0], found[1])
        return made if found[1] == "writer" else None

    def felt(self, chance, writer, row, signs, data):
        """A sign is spoilt; no word feels it but those whose windows hold it."""
        reader = Reader(writer)
        at = chance.randrange(len(row))
        spoilt = row[:at] + chance.choice(signs.replace(row[at], "")) + row[at + 1:]
        told = reader.read(spoilt)
        touched = reader.touched(len(row), at)
        self.assertEqual(len(told), len(data))
        self.assertLessEqual(len(touched), writer.behind() + 1 + writer.ahead())
        self.assertEqual([told[number] for number in range(len(data)) if number not in touched],
                         [data[number] for number in range(len(data)) if number not in touched])

    def check(self, chance, signs, barred, many, wide):
        band = Band(signs, barred)
        writer = self.one_of_three(band, many, wide)
        if writer is None:
            return False
        rows = {}
        for time in range(4):
            data = [chance.randrange(many) for word in range(12)]
            row = writer.write(data)
            self.assertTrue(helper.good(barred, row))
            self.assertEqual(Reader(writer).read(row), data)
            self.felt(chance, writer, row, signs, data)
            if len(row) <= 200:
                self.assertEqual(row_at(band, len(row), number_of(band, row)), row)
            self.assertEqual(rows.setdefault(row, data), data)
        return True

    def test_drawn_bands_and_rates(self):
        chance = random.Random(3)
        seen = [self.check(chance, *drawn) for drawn in helper.drawn_rates(300, 3)]
        self.assertGreater(seen.count(True), 150)
        self.assertGreater(seen.count(False), 50)

    def test_small_bands_at_all_rates(self):
        chance = random.Random(4)
        for signs, barred in helper.small_bands()[::4]:
            for many, wide in helper.rates_of(signs):
                self.check(chance, signs, barred, many, wide)

    def test_many_splits(self):
        chance = random.Random(5)
        for planned in helper.PLANNED:
            self.assertTrue(self.check(chance, *planned))

    def test_by_a_desk(self):
        chance = random.Random(6)
        for signs, barred, many, wide in helper.PLANNED:
            desk = Desk()
            desk.say(" ".join(["band", signs] + barred))
            self.assertEqual(desk.say(f"rate {many} {wide}"), "ok")
            data = " ".join(str(chance.randrange(many)) for word in range(8))
            row = desk.say("write " + data)
            self.assertEqual(desk.say("read " + row), data)
            if len(row) <= 200:
                number = desk.say("number " + row)
                if len(number) <= 60:
                    self.assertEqual(desk.say(f"row {len(row)} {number}"), row)


class Everywhere(Refusing):
    def test_refusals_are_band_errors_of_their_own_class(self):
        band = Band("ab", ["bb"])
        writer = Writer(band, 4, 3)
        reader, desk, sheet = Reader(writer), Desk(), first_sheet(band, 4, 3, {"": 2, "b": 1})
        calls = {
            "NoSigns": (Band, "a", []), "TooMany": (Band, "ab", ["a"] * 7), "NoWord": (Band, "ab", ["c"]),
            "NoRow": (reader.read, "c"), "Barred": (number_of, band, "bb"), "NoPlace": (blocks_from, band, "a", 1),
            "NoNumber": (reader.touched, len(writer.write([])), -1), "NoRate": (Writer, band, 1, 1),
            "NoSplit": (split, sheet, 4, 9, [0], 1), "NoLength": (reader.read, ""), "Scarce": (Writer, band, 5, 3),
            "Open": (plan_of, Band("ab", ["aab"]), 7, 4), "NoData": (writer.write, None), "NoForm": (desk.say, ""),
            "NoBand": (desk.say, "count 1")}
        for name, call in calls.items():
            self.refused(getattr(errors, name), *call)
        desk.say("band ab")
        self.refused(errors.NoWriter, desk.say, "write")
        classes = [thing for thing in vars(errors).values() if isinstance(thing, type)]
        self.assertEqual(sorted(each.__name__ for each in classes), sorted(list(calls) + ["NoWriter", "BandError"]))
        for each in classes:
            if each is not BandError:
                self.assertEqual(each.__bases__, (BandError,))

    def test_lists_handed_in_are_copied(self):
        barred, homes, weights, lines = ["bb"], [""], [1], [[("a", 0)]]
        band, sheet = Band("ab", barred), Sheet(homes, weights, lines)
        writer = Writer(band, 4, 3)
        row = writer.write([1, 2])
        barred.append("a")
        homes.clear(), weights.clear(), lines[0].clear(), lines.clear()
        self.assertEqual((band.barred, band.live()), (["bb"], ["", "b"]))
        self.assertEqual((sheet.homes, sheet.weights, sheet.lines), ([""], [1], [[("a", 0)]]))
        self.assertEqual((writer.write([1, 2]), Reader(writer).read(row)), (row, [1, 2]))
        self.assertEqual(Writer(band, 4, 3).write([1, 2]), row)

    def test_lists_and_dicts_given_are_new(self):
        band = Band("ab", ["bb"])
        writer = Writer(band, 4, 3)
        reader = Reader(writer)
        row = writer.write([3, 1])
        asks = [band.places, band.live, lambda: blocks_from(band, "", 3), lambda: greatest(band, 4, 3, 8),
                lambda: plan_of(band, 4, 3).weights, lambda: plan_of(band, 4, 3).splits, lambda: plan_of(band, 4, 3).kept,
                lambda: writer.plan().weights, lambda: writer.plan().splits, lambda: writer.plan().kept,
                lambda: writer.plan().sheet().lines, lambda: writer.plan().sheet().lines[0], lambda: writer.steps(0),
                lambda: reader.read(row), lambda: reader.touched(len(row), len(row) - 1)]
        before = [copy.deepcopy(ask()) for ask in asks]
        for ask in asks:
            first, second = ask(), ask()
            self.assertIsNot(first, second)
            first.clear()
            self.assertEqual([ask() for ask in asks], before)


if __name__ == "__main__":
    unittest.main()
