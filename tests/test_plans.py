import copy
import unittest

import helper
from bandscribe.bands import Band
from bandscribe.errors import BandError, NoRate, Open, Scarce
from bandscribe.plans import Plan, plan_of
from bandscribe.sheets import Sheet, first_sheet, split
from helper import Refusing

# Each with the least scarce length, by counts made ahead of this program's.
LATE_SCARCE = [("ab", ["aab", "aba"], 7, 5, 23), ("ab", ["aaa", "aab"], 7, 4, 18), ("ab", ["aaa", "abb"], 2, 2, 11),
               ("b9", ["9b99", "b99b", "bb99b", "b9b9"], 3, 2, 19), ("0z", ["0zz0", "00zz", "zzzzz"], 3, 2, 24),
               ("za", ["aza", "azzaz", "aazzz"], 6, 5, 24), ("z5", ["5z5z", "5zzz"], 5, 3, 24),
               ("ab", [], 3, 1, 1), ("ab", ["a", "b"], 2, 1, 1), ("ab", ["ab"], 2, 1, 2)]
# All weights up to 8 that fit are noughts.
ONLY_NOUGHTS = [("ab", ["aab"], 7, 4), ("9bz0", ["0", "09b99", "0b9b", "b9z", "b999"], 8, 2), ("az", ["aazaz"], 7, 3),
                ("b9", ["9b99", "b99b", "bb99b", "b9b9"], 5, 3), ("05a", ["0500", "00a", "0a", "550"], 6, 2)]
# The greatest weights of the least most come to 41.
ONE_TOO_MUCH = [("09", ["09090", "9090", "0999"], 8, 4), ("0zb", ["00bb0", "0b0zz", "0", "bzzzb", "bzb00"], 7, 3),
                ("za5", ["zaz5a", "zzzz5", "5azz", "555za", "a55", "za555"], 7, 2), ("za", ["zzaa", "azaaa", "zaaa"], 5, 3)]
# They come to more than 40, though those of a part of the places fit by themselves and come to less.
LESS_BY_THEMSELVES = [("0b", ["b00b0", "00b00", "b0bb"], 3, 2), ("90", ["90099", "90909", "00009"], 3, 2),
                      ("z0a", ["z", "0aaaa", "aa0z0", "0zza0", "z0"], 7, 3),
                      ("zb", ["zzzzz", "bzzzb", "bbbzb", "zbbbz", "bbzzb", "bbzzb"], 6, 4)]
# They come to just 40.
JUST_SO_MUCH = [("5a", ["5aaa", "a5555"], 5, 3), ("0b9", ["90", "9b90", "990", "0909b", "bb"], 5, 2),
                ("0z", ["z0000", "z0zzz", "z0z0", "z0z00"], 8, 4), ("a5", ["a5a5a", "5aaaa", "555a5"], 5, 3),
                ("95b", ["b5599", "b9bb5", "9bb9", "9b9", "5555", "5999b"], 7, 2)]


def fields(sheet):
    return [sheet.homes, sheet.weights, sheet.lines]


def told(plan):
    return copy.deepcopy([plan.weights, plan.splits, plan.kept, fields(plan.sheet())])


class Plans(Refusing):
    def check_weights(self, band, many, wide, weights):
        self.assertIs(type(weights), dict)
        self.assertEqual(sorted(weights), helper.live(band.signs, band.barred))
        self.assertTrue(all(type(weight) is int and 0 <= weight <= 8 for weight in weights.values()))
        self.assertTrue(1 <= sum(weights.values()) <= 40)
        self.assertTrue(helper.weights_fit(helper.blocks(band.signs, band.barred, wide), many, weights))

    def check_splits(self, band, many, wide, plan):
        sheet = first_sheet(band, many, wide, plan.weights)
        self.assertIs(type(plan.splits), list)
        for part in plan.splits:
            self.assertIs(type(part), tuple)
            desk, numbers, weight = part
            self.assertIs(type(numbers), list)
            self.assertEqual(len(set(numbers)), len(numbers))
            self.assertTrue(all(type(thing) is int for thing in numbers + [desk, weight]))
            sheet = split(sheet, many, desk, numbers, weight)
        self.assertIs(type(plan.sheet()), Sheet)
        self.assertEqual(fields(plan.sheet()), fields(sheet))
        return sheet

    def check_kept(self, many, sheet, kept):
        self.assertIs(type(kept), list)
        self.assertGreater(len(kept), 0)
        self.assertEqual(kept, sorted(set(kept)))
        for desk in kept:
            self.assertIn(desk, range(len(sheet.homes)))
            self.assertGreaterEqual(len([end for word, end in sheet.lines[desk] if end in kept]), many)

    def check_plan(self, band, many, wide, plan):
        self.assertIs(type(plan), Plan)
        self.check_weights(band, many, wide, plan.weights)
        sheet = self.check_splits(band, many, wide, plan)
        self.check_kept(many, sheet, plan.kept)

    def check(self, signs, barred, many, wide):
        """What was told, by its name; that, and what goes with it, as the document says."""
        band = Band(signs, barred)
        try:
            plan = plan_of(band, many, wide)
        except BandError as error:
            found = (type(error).__name__,)
            if type(error) is Scarce:
                found += (error.length, error.rows)
        else:
            found = ("plan",)
            self.check_plan(band, many, wide, plan)
        self.assertEqual(found, helper.outcome(signs, barred, many, wide), (signs, barred, many, wide))
        return found[0]

    def test_small_bands(self):
        seen = []
        for signs, barred in helper.small_bands():
            seen.extend(self.check(signs, barred, many, wide) for many in range(2, 9) for wide in (1, 2, 3, 5, 6))
        self.assertEqual(set(seen), {"Scarce", "plan"})

    def test_mixed_bands(self):
        seen = []
        for signs, barred in helper.mixed_bands():
            seen.extend(self.check(signs, barred, many, wide) for many in range(2, 9) for wide in range(1, 7))
        self.assertEqual(set(seen), {"NoRate", "Scarce", "Open", "plan"})

    def test_drawn_bands(self):
        seen = [self.check(*drawn) for drawn in helper.drawn_rates(1000, 16)]
        self.assertGreater(seen.count("plan"), 500)
        self.assertGreater(seen.count("Scarce"), 100)
        self.assertGreater(seen.count("Open"), 10)

    def test_many_splits_and_few(self):
        for asked in helper.PLANNED:
            self.assertEqual(self.check(*asked), "plan")
        for signs, barred, many, wide in helper.MANY_SPLITS + helper.FEW_SPLITS:
            # Where noughts and ones fit nothing need be split, but here they don't.
            told_blocks = helper.blocks(signs, barred, wide)
            self.assertFalse(any(helper.greatest(told_blocks, many, 1).values()))

    def test_weights_that_come_to_40(self):
        for signs, barred, many, wide in JUST_SO_MUCH:
            told_blocks = helper.blocks(signs, barred, wide)
            sums = [sum(helper.greatest(told_blocks, many, most).values()) for most in range(1, 9)]
            self.assertEqual([total for total in sums if total][0], 40)
            self.assertEqual(self.check(signs, barred, many, wide), "plan")

    def test_a_plan_by_hand(self):
        band = Band("ab", [])
        plan = plan_of(band, 2, 1)
        self.assertEqual((list(plan.weights), plan.splits, plan.kept), ([""], [], [0]))
        self.assertEqual(plan.sheet().lines, [[("a", 0), ("b", 0)]])
        self.assertEqual(plan.sheet().homes, [""])


class NoPlans(Refusing):
    def test_scarce(self):
        for signs, barred, many, wide, least in LATE_SCARCE:
            error = self.refused(Scarce, plan_of, Band(signs, barred), many, wide)
            counts = helper.counts_behind(signs, barred, "", least * wide)
            self.assertEqual((error.length, error.rows), (least, counts[-1]))
            self.assertEqual([type(error.length), type(error.rows)], [int, int])
            self.assertEqual([length for length in range(1, least + 1) if counts[length * wide] < many ** length], [least])

    def test_scarce_by_hand(self):
        for signs, barred, many, wide, length, rows in (
                ("ab", [], 3, 1, 1, 2), ("ab", ["bb"], 5, 3, 2, 21), ("ab", ["a", "b"], 2, 1, 1, 0),
                ("ab", ["a", "bbb"], 2, 2, 1, 1), ("abcd", [], 5, 1, 1, 4), ("ab", ["ab"], 2, 1, 2, 3)):
            error = self.refused(Scarce, plan_of, Band(signs, barred), many, wide)
            self.assertEqual((error.length, error.rows), (length, rows))

    def test_open_where_only_noughts_fit(self):
        for signs, barred, many, wide in ONLY_NOUGHTS:
            self.assertFalse(any(helper.greatest(helper.blocks(signs, barred, wide), many, 8).values()))
            self.assertEqual(helper.outcome(signs, barred, many, wide), ("Open",))
            self.refused(Open, plan_of, Band(signs, barred), many, wide)

    def test_open_where_weights_come_to_more_than_40(self):
        for signs, barred, many, wide in ONE_TOO_MUCH + LESS_BY_THEMSELVES:
            self.assertTrue(any(helper.greatest(helper.blocks(signs, barred, wide), many, 8).values()))
            self.assertEqual(helper.outcome(signs, barred, many, wide), ("Open",))
            self.refused(Open, plan_of, Band(signs, barred), many, wide)
        for signs, barred, many, wide in ONE_TOO_MUCH:
            told_blocks = helper.blocks(signs, barred, wide)
            sums = [sum(helper.greatest(told_blocks, many, most).values()) for most in range(1, 9)]
            self.assertEqual([total for total in sums if total][0], 41)

    def test_no_rate(self):
        for barred in ([], ["bb"], ["a", "b"]):
            band = Band("ab", barred)
            for thing in helper.no_whole_numbers() + [0, -1, 9, 10 ** 30]:
                self.refused(NoRate, plan_of, band, thing, 1)
                self.refused(NoRate, plan_of, band, 2, thing)
                self.refused(NoRate, plan_of, band, thing, thing)
            self.refused(NoRate, plan_of, band, 1, 1)
            self.refused(NoRate, plan_of, band, 2, 7)
        for wide in (4, 5, 6):
            self.refused(NoRate, plan_of, Band("abc", []), 2, wide)
            self.refused(NoRate, plan_of, Band("abcd", ["a", "b", "c", "d"]), 2, wide)


class OnesOwn(Refusing):
    def test_the_same_each_time(self):
        for signs, barred, many, wide in helper.PLANNED:
            band = Band(signs, barred)
            first, second = plan_of(band, many, wide), plan_of(band, many, wide)
            self.assertEqual(told(first), told(second))
            self.assertIsNot(first, second)
            self.assertEqual(told(plan_of(Band(signs, barred), many, wide)), told(first))

    def test_a_sheet_is_the_askers_own(self):
        for signs, barred, many, wide in helper.PLANNED:
            plan = plan_of(Band(signs, barred), many, wide)
            before = told(plan)
            sheet = plan.sheet()
            self.assertIsNot(plan.sheet(), sheet)
            sheet.homes.clear()
            sheet.weights[0] = 99
            sheet.lines[0].append(("x", 7))
            sheet.lines.pop()
            self.assertEqual(told(plan), before)

    def test_one_plan_is_not_changed_by_another(self):
        for signs, barred, many, wide in helper.PLANNED:
            band = Band(signs, barred)
            plan, other = plan_of(band, many, wide), plan_of(band, many, wide)
            before = told(plan)
            other.weights.clear()
            for desk, numbers, weight in other.splits:
                numbers.append(0)
            other.splits.append((0, [0], 1))
            other.kept.pop()
            other.sheet().lines.clear()
            self.assertEqual(told(plan), before)
            self.assertEqual(told(plan_of(band, many, wide)), before)

    def test_the_band_stays(self):
        for signs, barred, many, wide in helper.FEW_SPLITS + ONLY_NOUGHTS + ONE_TOO_MUCH:
            band = Band(signs, barred)
            before = [band.signs, list(band.barred), band.places(), band.live()]
            try:
                plan = plan_of(band, many, wide)
                plan.weights.clear()
            except Open:
                pass
            self.assertEqual([band.signs, list(band.barred), band.places(), band.live()], before)


if __name__ == "__main__":
    unittest.main()
