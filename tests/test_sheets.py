import copy
import random
import unittest

import helper
from bandscribe.bands import Band
from bandscribe.errors import NoRate, NoSplit
from bandscribe.rates import greatest
from bandscribe.sheets import Sheet, first_sheet, split
from helper import Refusing


def fields(sheet):
    return [sheet.homes, sheet.weights, sheet.lines]


def kept(sheet):
    return copy.deepcopy(fields(sheet))


def weighed_bands():
    """Tuples (band, many, wide, weights) with weights that fit and are not all noughts."""
    found = []
    for signs, barred in helper.small_bands() + helper.mixed_bands():
        band = Band(signs, barred)
        for many in (2, 3, 4, 5, 7):
            for wide in (2, helper.most_wide(signs)):
                for most in (1, 2, 5):
                    weights = greatest(band, many, wide, most)
                    if any(weights.values()):
                        found.append((band, many, wide, weights))
    return found


def parts_of(line, numbers):
    return [line[number] for number in sorted(numbers)], [step for number, step in enumerate(line)
                                                          if number not in numbers]


def is_split(sheet, many, desk, numbers, weight):
    """Whether it is a split, of a desk and steps that are there."""
    chosen, others = parts_of(sheet.lines[desk], numbers)
    rest = sheet.weights[desk] - weight
    if not chosen or not others or weight < 1 or rest < 1:
        return False
    sums = [sum(sheet.weights[end] for word, end in part) for part in (chosen, others)]
    return sums[0] >= many * weight and sums[1] >= many * rest


def split_fields(sheet, desk, numbers, weight):
    homes, weights, lines = kept(sheet)
    twin = len(homes)
    lines[desk], others = parts_of(lines[desk], numbers)
    lines.append(others)
    homes.append(homes[desk])
    weights.append(weights[desk] - weight)
    weights[desk] = weight
    for line in lines:
        for number in range(len(line) - 1, -1, -1):
            if line[number][1] == desk:
                line.insert(number + 1, (line[number][0], twin))
    return [homes, weights, lines]


def hand_sheet():
    """Desk 0 has steps to each desk, twice to itself; all have the weights of a sheet for many 2."""
    return Sheet(["", "a", "b"], [5, 3, 1],
                 [[("aa", 0), ("ab", 1), ("ba", 2), ("bb", 0)], [("aa", 1), ("bb", 0)], [("ba", 0), ("bb", 2)]])


class Sheets(Refusing):
    def test_fields(self):
        sheet = Sheet(["", "a"], [2, 1], [[("a", 1), ("b", 0)], [("b", 0)]])
        self.assertEqual(fields(sheet), [["", "a"], [2, 1], [[("a", 1), ("b", 0)], [("b", 0)]]])

    def test_copies_are_kept(self):
        homes, weights, lines = ["", "a"], [2, 1], [[("a", 1), ("b", 0)], [("b", 0)]]
        sheet = Sheet(homes, weights, lines)
        before = kept(sheet)
        self.assertEqual([homes, weights, lines], before)
        homes.append("b")
        weights[0] = 7
        lines[0].append(("x", 9))
        lines[1].clear()
        lines.append([])
        self.assertEqual(fields(sheet), before)

    def test_two_sheets_of_the_same_lists(self):
        homes, weights, lines = ["", "a"], [2, 1], [[("a", 1), ("b", 0)], [("b", 0)]]
        first, second = Sheet(homes, weights, lines), Sheet(homes, weights, lines)
        for mine, other, handed in zip(fields(first), fields(second), (homes, weights, lines)):
            self.assertIsNot(mine, other)
            self.assertIsNot(mine, handed)
        for number in range(2):
            self.assertIsNot(first.lines[number], second.lines[number])
            self.assertIsNot(first.lines[number], lines[number])


class FirstSheets(Refusing):
    def check(self, band, wide, weights, sheet):
        told = helper.blocks(band.signs, band.barred, wide)
        homes = [place for place in told if weights[place] > 0]
        self.assertEqual(sheet.homes, homes)
        self.assertEqual(sheet.weights, [weights[place] for place in homes])
        lines = [[(word, homes.index(end)) for word, end in told[place] if weights[end] > 0] for place in homes]
        self.assertEqual(sheet.lines, lines)

    def test_of_the_greatest_weights(self):
        asked = weighed_bands()
        self.assertTrue(any(0 in weights.values() for band, many, wide, weights in asked))
        for band, many, wide, weights in asked:
            self.check(band, wide, weights, first_sheet(band, many, wide, weights))

    def test_of_other_weights_that_fit(self):
        seen = 0
        for signs, barred in helper.small_bands():
            band = Band(signs, barred)
            for many, wide in ((2, 2), (3, 3)):
                told = helper.blocks(signs, barred, wide)
                for weights in helper.all_weights(band.live(), 2):
                    if any(weights.values()) and helper.weights_fit(told, many, weights):
                        seen += 1
                        self.check(band, wide, weights, first_sheet(band, many, wide, weights))
        self.assertGreater(seen, 300)

    def test_by_hand(self):
        sheet = first_sheet(Band("ba", ["bb"]), 4, 3, {"b": 1, "": 2})
        self.assertEqual(fields(sheet), [["", "b"], [2, 1], [
            [("bab", 1), ("baa", 0), ("aba", 0), ("aab", 1), ("aaa", 0)], [("aba", 0), ("aab", 1), ("aaa", 0)]]])
        sheet = first_sheet(Band("ba", ["bb"]), 3, 3, {"": 7, "b": 0})
        self.assertEqual(fields(sheet), [[""], [7], [[("baa", 0), ("aba", 0), ("aaa", 0)]]])

    def test_weights_of_many_figures(self):
        size = 10 ** 200
        sheet = first_sheet(Band("ab", ["bb"]), 4, 3, {"": 2 * size, "b": size})
        self.assertEqual(sheet.weights, [2 * size, size])

    def test_kinds(self):
        sheet = first_sheet(Band("ab", ["bb"]), 4, 3, {"": 2, "b": 1})
        self.assertEqual([type(sheet)] + [type(field) for field in fields(sheet)], [Sheet, list, list, list])
        for line in sheet.lines:
            self.assertIs(type(line), list)
            for step in line:
                self.assertEqual([type(step)] + [type(part) for part in step], [tuple, str, int])

    def test_the_weights_stay_and_are_not_kept(self):
        band, weights = Band("ab", ["bb"]), {"b": 1, "": 2}
        sheet = first_sheet(band, 4, 3, weights)
        self.assertEqual(list(weights.items()), [("b", 1), ("", 2)])
        before = kept(sheet)
        weights[""] = 9
        weights.clear()
        self.assertEqual(fields(sheet), before)

    def test_each_sheet_is_the_askers_own(self):
        band, weights = Band("ab", ["bb"]), {"b": 1, "": 2}
        first = first_sheet(band, 4, 3, weights)
        before = kept(first)
        first.homes.clear()
        first.weights[0] = 9
        first.lines[1].append(("x", 3))
        first.lines.pop(0)
        second = first_sheet(band, 4, 3, weights)
        self.assertEqual(fields(second), before)
        self.assertEqual((band.places(), band.live()), (["", "b"], ["", "b"]))
        first_sheet(band, 4, 3, {"": 4, "b": 2})
        self.assertEqual(fields(second), before)

    def test_what_is_no_rate(self):
        band = Band("ab", ["bb"])
        for many, wide in ((1, 3), (9, 3), (4, 0), (4, 7), (True, 3), (4, True), ("4", 3), (4, None), (4, 10 ** 9)):
            self.refused(NoRate, first_sheet, band, many, wide, {"": 2, "b": 1})


class Splits(Refusing):
    def check(self, sheet, many, desk, numbers, weight):
        """Whether it was split; either way as the document says."""
        before, handed = kept(sheet), list(numbers)
        if not is_split(sheet, many, desk, numbers, weight):
            self.refused(NoSplit, split, sheet, many, desk, numbers, weight)
            self.assertEqual((fields(sheet), numbers), (before, handed))
            return None
        new = split(sheet, many, desk, numbers, weight)
        self.assertEqual(fields(new), split_fields(sheet, desk, numbers, weight))
        self.assertEqual((fields(sheet), numbers), (before, handed))
        self.assertEqual(fields(split(sheet, many, desk, numbers, weight)), fields(new))
        return new

    def test_by_hand(self):
        new = split(hand_sheet(), 2, 0, [3, 1], 4)
        self.assertEqual(new.homes, ["", "a", "b", ""])
        self.assertEqual(new.weights, [4, 3, 1, 1])
        self.assertEqual(new.lines, [
            [("ab", 1), ("bb", 0), ("bb", 3)], [("aa", 1), ("bb", 0), ("bb", 3)], [("ba", 0), ("ba", 3), ("bb", 2)],
            [("aa", 0), ("aa", 3), ("ba", 2)]])

    def test_another_desk_than_the_first(self):
        new = split(hand_sheet(), 2, 1, [1], 2)
        self.assertEqual(new.homes, ["", "a", "b", "a"])
        self.assertEqual(new.weights, [5, 2, 1, 1])
        self.assertEqual(new.lines, [
            [("aa", 0), ("ab", 1), ("ab", 3), ("ba", 2), ("bb", 0)], [("bb", 0)], [("ba", 0), ("bb", 2)],
            [("aa", 1), ("aa", 3)]])

    def test_of_a_first_sheet(self):
        sheet = first_sheet(Band("ab", ["bb"]), 4, 3, {"": 2, "b": 1})
        new = split(sheet, 4, 0, [2, 0], 1)
        self.assertEqual(fields(new), [["", "b", ""], [1, 1, 1], [
            [("aaa", 0), ("aaa", 2), ("aba", 0), ("aba", 2)],
            [("aaa", 0), ("aaa", 2), ("aab", 1), ("aba", 0), ("aba", 2)],
            [("aab", 1), ("baa", 0), ("baa", 2), ("bab", 1)]]])

    def test_the_order_of_the_numbers_is_nothing(self):
        steps = [(word, 0) for word in helper.rows_of("ab", 3)]
        sheet = Sheet([""], [4], [steps])
        told = split(sheet, 2, 0, [1, 4, 6, 7], 2)
        for numbers in ([7, 6, 4, 1], [4, 7, 1, 6], [6, 1, 7, 4]):
            self.assertEqual(fields(self.check(sheet, 2, 0, numbers, 2)), fields(told))
        self.assertEqual([word for word, end in told.lines[0]], ["aab"] * 2 + ["baa"] * 2 + ["bba"] * 2 + ["bbb"] * 2)
        self.assertEqual([end for word, end in told.lines[0]], [0, 1] * 4)

    def test_all_numbers_and_weights(self):
        sheet = hand_sheet()
        seen = 0
        for many in (2, 3):
            for desk in range(3):
                line = sheet.lines[desk]
                for bits in range(2 ** len(line)):
                    numbers = [number for number in range(len(line)) if bits >> number & 1]
                    for weight in range(-2, 9):
                        for order in (numbers, numbers[::-1]):
                            seen += self.check(sheet, many, desk, order, weight) is not None
        self.assertGreater(seen, 20)

    def test_one_behind_the_other(self):
        chance = random.Random(11)
        done = 0
        for band, many, wide, weights in chance.sample(weighed_bands(), 150):
            sheet = first_sheet(band, many, wide, weights)
            for turn in range(25):
                desk = chance.randrange(len(sheet.homes))
                line = sheet.lines[desk]
                numbers = chance.sample(range(len(line)), chance.randint(0, len(line)))
                new = self.check(sheet, many, desk, numbers, chance.randint(0, sheet.weights[desk]))
                if new is not None:
                    done += 1
                    self.assertEqual(sum(new.weights), sum(sheet.weights))
                    for number, steps in enumerate(new.lines):
                        self.assertGreaterEqual(sum(new.weights[end] for word, end in steps),
                                                many * new.weights[number])
                    sheet = new
        self.assertGreater(done, 150)

    def test_too_little_by_one(self):
        for many in (2, 3, 8):
            for chosen, others, weight, rest in ((1, 2, 1, 2), (5, 1, 5, 1), (10 ** 60, 10 ** 50, 10 ** 60, 10 ** 50)):
                for less in (0, 1):
                    for fewer in (0, 1):
                        # The desks to which the parts lead have just the weight that is asked for, or one less.
                        weights = [weight + rest, many * chosen - less, many * others - fewer]
                        sheet = Sheet(["", "a", "b"], weights, [[("a", 1), ("b", 2)], [("a", 1)], [("b", 2)]])
                        new = self.check(sheet, many, 0, [0], weight)
                        self.assertEqual(new is None, bool(less or fewer))

    def test_each_step_counts_its_desk(self):
        line = [("aa", 1), ("ab", 1), ("ac", 1), ("ba", 0), ("bb", 0)]
        sheet = Sheet(["", "a"], [3, 1], [line, [("aa", 0)]])
        self.assertEqual(split(sheet, 3, 0, [0, 1, 2], 1).weights, [1, 1, 2])
        self.assertEqual(split(sheet, 3, 0, [4, 3], 2).weights, [2, 1, 1])
        self.refused(NoSplit, split, sheet, 3, 0, [0, 1], 1)
        self.refused(NoSplit, split, sheet, 3, 0, [0, 1, 2, 3], 1)

    def test_no_weight(self):
        sheet = Sheet([""], [3], [[("aa", 0), ("ab", 0), ("ba", 0), ("bb", 0)]])
        for weight in (0, -1, -10 ** 40, 3, 4, 10 ** 40):
            self.refused(NoSplit, split, sheet, 2, 0, [0, 1], weight)
        self.assertEqual(split(sheet, 2, 0, [0, 1], 1).weights, [1, 2])
        self.assertEqual(split(sheet, 2, 0, [0, 1], 2).weights, [2, 1])
        for weight in range(-1, 3):
            self.refused(NoSplit, split, Sheet([""], [1], sheet.lines), 2, 0, [0, 1], weight)

    def test_no_steps(self):
        sheet = Sheet([""], [3], [[("aa", 0), ("ab", 0), ("ba", 0), ("bb", 0)]])
        for numbers in ([], [0, 1, 2, 3], [3, 2, 1, 0], [2, 0, 3, 1]):
            for weight in (1, 2):
                self.refused(NoSplit, split, sheet, 2, 0, numbers, weight)

    def test_a_desk_that_is_not_there(self):
        sheet = hand_sheet()
        for desk in (-1, -2, -3, -4, 3, 4, 10 ** 9, -10 ** 9, 10 ** 60):
            for numbers, weight in (([0], 1), ([1], 2), ([0], 2), ([], 0)):
                self.refused(NoSplit, split, sheet, 2, desk, numbers, weight)

    def test_a_step_that_is_not_there(self):
        sheet = hand_sheet()
        self.assertEqual(split(sheet, 2, 0, [1, 3], 4).weights, [4, 3, 1, 1])
        for number in (-1, -2, -4, -5, 4, 5, 10 ** 9, -10 ** 9, 10 ** 60):
            for numbers in ([number], [1, 3, number], [number, 3, 1], [1, number]):
                for weight in (1, 2, 3, 4):
                    self.refused(NoSplit, split, sheet, 2, 0, numbers, weight)
        self.assertEqual(split(sheet, 2, 1, [1], 2).weights, [5, 2, 1, 1])
        for numbers in ([2], [1, 2], [-1]):
            self.refused(NoSplit, split, sheet, 2, 1, numbers, 2)

    def test_weights_of_many_figures(self):
        size = 10 ** 300
        sheet = Sheet(["", "a"], [5 * size, 4 * size], [[("a", 0), ("b", 1), ("c", 0)], [("a", 0), ("b", 1)]])
        least, most = 5 * size // 2, 9 * size // 2
        for weight in (least, least + 1, 3 * size, most - 1, most):
            new = self.check(sheet, 2, 0, [0, 1], weight)
            self.assertEqual(new.weights, [weight, 4 * size, 5 * size - weight])
        for weight in (least - 1, most + 1):
            self.refused(NoSplit, split, sheet, 2, 0, [0, 1], weight)

    def test_what_was_handed_in_and_given_are_apart(self):
        sheet, numbers = hand_sheet(), [3, 1]
        before = kept(sheet)
        new = split(sheet, 2, 0, numbers, 4)
        told = kept(new)
        for mine, other in zip(fields(new), fields(sheet)):
            self.assertIsNot(mine, other)
        for line in new.lines:
            self.assertFalse(any(line is other for other in sheet.lines))
            for step in line:
                self.assertFalse(any(step is other for steps in sheet.lines for other in steps))
        new.homes.clear()
        new.weights[1] = 50
        new.lines[1].clear()
        new.lines[2].append(("x", 0))
        self.assertEqual((fields(sheet), numbers), (before, [3, 1]))
        again = split(sheet, 2, 0, numbers, 4)
        self.assertEqual(fields(again), told)
        numbers.clear()
        sheet.lines[1].append(("y", 1))
        split(again, 2, 0, [0, 2], 2)
        self.assertEqual(fields(again), told)


if __name__ == "__main__":
    unittest.main()
