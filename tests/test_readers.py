import random
import unittest

import helper
from bandscribe.bands import Band
from bandscribe.errors import NoLength, NoNumber, NoRow
from bandscribe.readers import Reader
from bandscribe.writers import Writer
from helper import Refusing


class Asked:
    """A band, a writer and its reader, and what the document says of their windows, the slow way."""

    def __init__(self, signs, barred, many, wide):
        self.signs, self.barred, self.many, self.wide = signs, barred, many, wide
        self.writer = Writer(Band(signs, barred), many, wide)
        self.reader = Reader(self.writer)
        self.behind, self.ahead = self.writer.behind(), self.writer.ahead()
        self.blocks = self.behind + 1 + self.ahead
        self.lead = len(self.writer.lead())
        self.lines = [self.writer.steps(desk) for desk in range(self.writer.desks())]
        self.homes = [self.writer.place_at(desk) for desk in range(self.writer.desks())]

    def firsts(self, window):
        """The pairs (data word, desk) of first steps along a window, and the blocks behind them."""
        cut = self.behind * self.wide
        blocks = [window[at:at + self.wide] for at in range(cut, len(window), self.wide)]
        if not helper.good(self.barred, window[:cut]):
            return [], blocks[1:]
        place = helper.place_behind(self.signs, self.barred, window[:cut])
        desks = [desk for desk in range(len(self.lines)) if self.homes[desk] == place]
        return [(number, end) for desk in desks for number, (word, end) in enumerate(self.lines[desk])
                if word == blocks[0]], blocks[1:]

    def goes(self, desk, blocks):
        """Way by way."""
        if not blocks:
            return True
        return any(self.goes(end, blocks[1:]) for word, end in self.lines[desk] if word == blocks[0])

    def ways(self, desk, blocks):
        """How many ways go along each number of the blocks, from a desk on."""
        desks, counts = {desk: 1}, []
        for block in blocks:
            ends = {}
            for other, ways in desks.items():
                for word, end in self.lines[other]:
                    if word == block:
                        ends[end] = ends.get(end, 0) + ways
            desks = ends
            counts.append(sum(desks.values()))
        return counts

    def word_way_by_way(self, window):
        firsts, blocks = self.firsts(window)
        return sorted(set(number for number, desk in firsts if self.goes(desk, blocks)))

    def word(self, window):
        firsts, blocks = self.firsts(window)
        return sorted(set(number for number, desk in firsts if not blocks or self.ways(desk, blocks)[-1]))

    def windows(self, row):
        things = (len(row) - self.lead) // self.wide - self.ahead
        starts = [self.lead + (number - self.behind) * self.wide for number in range(things)]
        return [row[start:start + self.blocks * self.wide] for start in starts]

    def data(self, chance, length):
        return [chance.randrange(self.many) for word in range(length)]

    def changed(self, chance, row, times=1):
        for time in range(times):
            at = chance.randrange(len(row))
            row = row[:at] + chance.choice(self.signs.replace(row[at], "")) + row[at + 1:]
        return row


def asked(lot):
    return [Asked(*each) for each in lot]


def drawn(many, seed):
    return asked([each for each in helper.drawn_rates(many, seed) if helper.outcome(*each) == ("plan",)])


class Windows(Refusing):
    def windows_to_ask(self, one, chance, many):
        for time in range(many):
            window = chance.choice(one.windows(one.writer.write(one.data(chance, 4))))
            yield window
            yield one.changed(chance, window)
            yield one.changed(chance, window, 2)
            yield "".join(chance.choices(one.signs, k=len(window)))
            # Drawn ahead, written behind, and the other way round.
            at = chance.randrange(len(window))
            yield "".join(chance.choices(one.signs, k=at)) + window[at:]
            yield window[:at] + "".join(chance.choices(one.signs, k=len(window) - at))

    def check(self, one, window, slow):
        words = slow(window)
        self.assertLessEqual(len(words), 1)
        told = one.reader.word_of(window)
        self.assertEqual(told, words[0] if words else None, (one.signs, one.barred, one.many, one.wide, window))
        self.assertIs(type(told), int if words else type(None))
        return told is None

    def test_way_by_way(self):
        chance = random.Random(20)
        seen = []
        for one in asked(helper.FEW_SPLITS + helper.NO_SPLITS) + drawn(60, 5):
            if one.ahead <= 5:
                seen.extend(self.check(one, window, one.word_way_by_way)
                            for window in self.windows_to_ask(one, chance, 12))
        self.assertGreater(seen.count(True), 500)
        self.assertGreater(seen.count(False), 500)

    def test_many_splits(self):
        chance = random.Random(21)
        seen = []
        for one in asked(helper.MANY_SPLITS) + drawn(60, 6):
            seen.extend(self.check(one, window, one.word) for window in self.windows_to_ask(one, chance, 6))
        self.assertGreater(seen.count(True), 300)
        self.assertGreater(seen.count(False), 300)

    def test_all_windows_of_small_ones(self):
        seen = []
        for each in (("ab", ["bb"], 4, 3), ("ab", ["bab", "bba"], 2, 2), ("ab", [], 2, 1), ("abcd", ["a"], 3, 1),
                     ("abcd", ["a", "b"], 4, 2), ("abc", ["aa", "bb"], 2, 1), ("ab", ["aa"], 2, 2),
                     ("ab", ["aab"], 2, 2)):
            one = Asked(*each)
            windows = helper.rows_of(one.signs, one.blocks * one.wide)
            self.assertLess(len(windows), 5000)
            seen.extend(self.check(one, window, one.word_way_by_way) for window in windows)
        self.assertGreater(seen.count(True), 100)
        self.assertGreater(seen.count(False), 100)

    def test_several_ways(self):
        chance = random.Random(22)
        most = 0
        for one in asked(helper.MANY_SPLITS):
            for window in one.windows(one.writer.write(one.data(chance, 12))):
                # Spoilt at the end, so that whoever goes way by way turns back at each.
                for sign in one.signs.replace(window[-1], ""):
                    self.check(one, window[:-1] + sign, one.word)
                firsts, blocks = one.firsts(window)
                most = max([most] + [max(one.ways(desk, blocks)) for number, desk in firsts])
        self.assertGreater(most, 4)

    def test_the_first_signs_must_be_good(self):
        for one in asked(helper.PLANNED):
            row = one.writer.write([1, 0, 1])
            window = one.windows(row)[0]
            for word in one.barred:
                if len(word) <= one.behind * one.wide:
                    spoilt = word + window[len(word):]
                    self.assertIsNone(one.reader.word_of(spoilt))

    def test_another_sign(self):
        for one in asked(helper.PLANNED):
            window = one.windows(one.writer.write([1]))[0]
            size = len(window)
            for sign in ("?", " ", "A", "\t", "-", "\u0661"):
                for at in (0, size // 2, size - 1):
                    for end in ("", "?", "a", "a??"):
                        spoilt = window[:at] + sign + window[at + 1:] + end
                        self.assertEqual(self.refused(NoRow, one.reader.word_of, spoilt).number, at)
            self.assertEqual(self.refused(NoRow, one.reader.word_of, "?").number, 0)
            self.assertEqual(self.refused(NoRow, one.reader.word_of, window + "?").number, size)

    def test_another_length(self):
        for one in asked(helper.PLANNED):
            size = one.blocks * one.wide
            for length in (0, 1, size - one.wide, size - 1, size + 1, size + one.wide, 2 * size, 2000):
                if length != size:
                    row = (one.signs * 2000)[:length]
                    self.assertEqual(self.refused(NoLength, one.reader.word_of, row).length, length)


class Rows(Refusing):
    def test_what_was_written_is_read_again(self):
        chance = random.Random(23)
        for one in asked(helper.PLANNED) + drawn(80, 7):
            for length in (0, 1, 2, 3, 11):
                data = one.data(chance, length)
                told = one.reader.read(one.writer.write(data))
                self.assertEqual(told, data)
                self.assertIs(type(told), list)

    def test_150_words(self):
        chance = random.Random(24)
        for one in asked(helper.PLANNED):
            data = one.data(chance, 150)
            self.assertEqual(one.reader.read(one.writer.write(data)), data)

    def test_each_thing_is_what_its_window_tells(self):
        chance = random.Random(25)
        for one in asked(helper.PLANNED) + drawn(30, 8):
            row = one.writer.write(one.data(chance, 6))
            length = len(row)
            rows = [row, "".join(chance.choices(one.signs, k=length)), one.changed(chance, row, 5)]
            for row in rows:
                told = one.reader.read(row)
                self.assertEqual(len(told), 6)
                self.assertEqual(told, [one.reader.word_of(window) for window in one.windows(row)])

    def test_any_sign_changed(self):
        chance = random.Random(26)
        for one in asked(helper.FEW_SPLITS + helper.NO_SPLITS + helper.MANY_SPLITS[-4:]):
            data = one.data(chance, 5)
            row = one.writer.write(data)
            for at in range(len(row)):
                for sign in one.signs.replace(row[at], ""):
                    spoilt = row[:at] + sign + row[at + 1:]
                    told = one.reader.read(spoilt)
                    words = [one.word(window) for window in one.windows(spoilt)]
                    self.assertEqual(told, [found[0] if found else None for found in words])
                    touched = one.reader.touched(len(row), at)
                    self.assertEqual([thing for number, thing in enumerate(told) if number not in touched],
                                     [thing for number, thing in enumerate(data) if number not in touched])

    def test_another_length(self):
        for one in asked(helper.PLANNED):
            least = one.lead + one.ahead * one.wide
            for length in list(range(least + 4 * one.wide)) + [1999, 2000]:
                row = (one.signs * 2000)[:length]
                if length >= least and (length - least) % one.wide == 0:
                    self.assertEqual(len(one.reader.read(row)), (length - least) // one.wide)
                else:
                    self.assertEqual(self.refused(NoLength, one.reader.read, row).length, length)

    def test_another_sign(self):
        for one in asked(helper.PLANNED):
            row = one.writer.write([1, 1])
            for at in range(0, len(row), 5):
                for end in ("", "?", one.signs):
                    spoilt = row[:at] + "?" + row[at + 1:] + end
                    self.assertEqual(self.refused(NoRow, one.reader.read, spoilt).number, at)
            self.assertEqual(self.refused(NoRow, one.reader.read, row + "?").number, len(row))
            self.assertEqual(self.refused(NoRow, one.reader.read, "?").number, 0)


class Touched(Refusing):
    def slow(self, one, length, number):
        things = (length - one.lead) // one.wide - one.ahead
        starts = [one.lead + (thing - one.behind) * one.wide for thing in range(things)]
        return [thing for thing, start in enumerate(starts) if start <= number < start + one.blocks * one.wide]

    def test_each_sign(self):
        for one in asked(helper.PLANNED) + drawn(30, 9):
            for words in (0, 1, 2, 5, one.blocks + 3):
                length = one.lead + (words + one.ahead) * one.wide
                for number in range(length):
                    told = one.reader.touched(length, number)
                    self.assertEqual(told, self.slow(one, length, number))
                    self.assertLessEqual(len(told), one.blocks)
                    self.assertIs(type(told), list)

    def test_by_hand(self):
        # One block behind, one ahead, three signs each; how long the lead is is the writer's own.
        one = Asked("ab", ["bb"], 4, 3)
        if (one.behind, one.ahead) == (1, 1):
            length = one.lead + 12
            self.assertEqual([one.reader.touched(length, one.lead + at) for at in (-1, 0, 2, 3, 5, 6, 8, 9, 11)],
                             [[0], [0, 1], [0, 1], [0, 1, 2], [0, 1, 2], [1, 2], [1, 2], [2], [2]])
        plain = Asked("ab", [], 2, 1)
        self.assertEqual([plain.reader.touched(plain.lead + 3, plain.lead + at) for at in range(3)], [[0], [1], [2]])

    def test_a_row_of_many_figures(self):
        for one in asked(helper.FEW_SPLITS[:4]):
            words = 10 ** 50
            length = one.lead + (words + one.ahead) * one.wide
            number = one.lead + 10 ** 40 * one.wide
            self.assertEqual(one.reader.touched(length, number),
                             list(range(10 ** 40 - one.ahead, 10 ** 40 + one.behind + 1)))
            self.assertEqual(one.reader.touched(length, length - 1), [words - 1])
            self.refused(NoLength, one.reader.touched, length + 1, number)

    def test_no_length(self):
        for one in asked(helper.PLANNED):
            least = one.lead + one.ahead * one.wide
            for length in [-10 ** 40, -1, -one.wide] + list(range(least + 2 * one.wide)):
                if length < least or (length - least) % one.wide:
                    for number in (0, length, -1, None, "0"):
                        error = self.refused(NoLength, one.reader.touched, length, number)
                        self.assertEqual(error.length, length)

    def test_no_number(self):
        for one in asked(helper.PLANNED):
            for words in (0, 3):
                length = one.lead + (words + one.ahead) * one.wide
                for number in helper.no_whole_numbers() + [length, length + 1, -1, -length, 10 ** 60, -10 ** 60]:
                    self.refused(NoNumber, one.reader.touched, length, number)


class OnesOwn(Refusing):
    def test_what_is_given_may_be_changed(self):
        for one in asked(helper.PLANNED):
            row = one.writer.write([1, 0, 1])
            told, touched = one.reader.read(row), one.reader.touched(len(row), len(row) - 1)
            told.append("x")
            told[0] = 9
            touched.append("x")
            self.assertEqual(one.reader.read(row), [1, 0, 1])
            self.assertNotIn("x", one.reader.touched(len(row), len(row) - 1))

    def test_nothing_asked_changes_a_reader(self):
        for one in asked(helper.FEW_SPLITS):
            row = one.writer.write([1, 0, 1, 1])
            window = one.windows(row)[1]
            one.reader.read(row[::-1])
            one.writer.write([0, 0, 1])
            one.writer.steps(0).clear()
            one.writer.plan().kept.clear()
            self.refused(NoRow, one.reader.read, "?")
            self.assertEqual((one.reader.read(row), one.reader.word_of(window)), ([1, 0, 1, 1], 0))
            self.assertEqual(Reader(one.writer).read(row), [1, 0, 1, 1])


if __name__ == "__main__":
    unittest.main()
