import copy
import itertools
import random
import unittest

import helper
from bandscribe.bands import Band
from bandscribe.errors import BandError, NoData, NoRate, Open, Scarce
from bandscribe.plans import Plan, plan_of
from bandscribe.writers import Writer
from helper import Refusing


def planned(drawn=150):
    """Tuples (signs, barred, many, wide) for which there is a writer."""
    others = [asked for asked in helper.drawn_rates(drawn, 17) if helper.outcome(*asked) == ("plan",)]
    return helper.PLANNED + others


def writer_of(signs, barred, many, wide):
    return Writer(Band(signs, barred), many, wide)


def looks(plan):
    sheet = plan.sheet()
    return copy.deepcopy([plan.weights, plan.splits, plan.kept, sheet.homes, sheet.weights, sheet.lines])


def all_told(writer):
    desks = range(writer.desks())
    return [writer.behind(), writer.ahead(), writer.start(), writer.lead(), [writer.place_at(desk) for desk in desks],
            [writer.steps(desk) for desk in desks], looks(writer.plan()), writer.write([1, 0, 1])]


def written(writer, data):
    """Step by step, straight from the document's words."""
    row, desk = writer.lead(), writer.start()
    for thing in list(data) + [0] * writer.ahead():
        word, desk = writer.steps(desk)[thing]
        row += word
    return row


class Made(Refusing):
    def test_desks_and_steps_are_the_plans(self):
        for signs, barred, many, wide in planned():
            writer = writer_of(signs, barred, many, wide)
            plan = writer.plan()
            sheet = plan.sheet()
            self.assertEqual(writer.desks(), len(plan.kept))
            self.assertEqual([writer.place_at(desk) for desk in range(writer.desks())],
                             [sheet.homes[desk] for desk in plan.kept])
            for desk, old in enumerate(plan.kept):
                steps = writer.steps(desk)
                self.assertEqual(len(steps), many)
                self.assertEqual(len(set(steps)), many)
                there = [(word, plan.kept.index(end)) for word, end in sheet.lines[old] if end in plan.kept]
                self.assertEqual([step for step in steps if step not in there], [])

    def test_the_plan_is_one_for_the_band_and_rate(self):
        for signs, barred, many, wide in planned(40):
            plan = writer_of(signs, barred, many, wide).plan()
            self.assertIs(type(plan), Plan)
            self.assertTrue(any(plan.weights.values()))
            self.assertTrue(helper.weights_fit(helper.blocks(signs, barred, wide), many, plan.weights))
            self.assertEqual(len(plan.sheet().homes), len([w for w in plan.weights.values() if w]) + len(plan.splits))

    def test_behind(self):
        for signs, barred, many, wide in planned():
            least = max([len(word) for word in barred], default=1) - 1
            behind = min(number for number in range(6) if number * wide >= least)
            self.assertEqual(writer_of(signs, barred, many, wide).behind(), behind, (barred, wide))

    def test_behind_by_hand(self):
        for signs, barred, wide, behind in (
                ("ab", [], 1, 0), ("ab", [], 6, 0), ("abc", ["a"], 1, 0), ("abc", ["a", "a"], 2, 0),
                ("abc", ["ab"], 1, 1), ("abc", ["abc"], 1, 2), ("abc", ["abc"], 2, 1), ("abc", ["abca"], 2, 2),
                ("abc", ["abca"], 3, 1), ("abcd", ["abcda"], 1, 4), ("abc", ["abcaa"], 2, 2), ("abc", ["abcaa"], 3, 2),
                ("ab", ["abbba"], 4, 1), ("ab", ["abbba"], 5, 1), ("ab", ["aa", "abbba", "b" * 3], 3, 2),
                # The longest word counts though a shorter one in it is barred as well.
                ("abc", ["a", "aabca"], 2, 2), ("abc", ["a", "aaaaa"], 3, 2)):
            self.assertEqual(writer_of(signs, barred, 2, wide).behind(), behind, (barred, wide))

    def test_ahead_is_the_number_of_splits(self):
        for asked in planned():
            writer = writer_of(*asked)
            self.assertEqual(writer.ahead(), len(writer.plan().splits))
        self.assertEqual(writer_of("ab", [], 2, 1).ahead(), 0)

    def test_start_and_lead(self):
        for signs, barred, many, wide in planned():
            writer = writer_of(signs, barred, many, wide)
            self.assertIn(writer.start(), range(writer.desks()))
            lead = writer.lead()
            self.assertEqual(set(lead) - set(signs), set())
            self.assertTrue(helper.good(barred, lead))
            self.assertTrue(writer.behind() * wide <= len(lead) <= 400)
            self.assertEqual(helper.place_behind(signs, barred, lead), writer.place_at(writer.start()))

    def test_kinds(self):
        for asked in helper.PLANNED:
            writer = writer_of(*asked)
            self.assertEqual([type(thing) for thing in (writer.behind(), writer.ahead(), writer.start(), writer.desks(),
                                                        writer.lead(), writer.place_at(0), writer.steps(0))],
                             [int, int, int, int, str, str, list])
            for step in writer.steps(0):
                self.assertEqual([type(step)] + [type(part) for part in step], [tuple, str, int])
            self.assertIs(type(writer.write([])), str)


class Refused(Refusing):
    def test_as_a_plan_is(self):
        seen = set()
        for signs, barred, many, wide in helper.drawn_rates(200, 18):
            found = helper.outcome(signs, barred, many, wide)
            band = Band(signs, barred)
            if found == ("plan",):
                Writer(band, many, wide)
            elif found == ("Open",):
                self.refused(Open, Writer, band, many, wide)
            else:
                error = self.refused(Scarce, Writer, band, many, wide)
                self.assertEqual(("Scarce", error.length, error.rows), found)
            seen.add(found[0])
        self.assertEqual(seen, {"plan", "Open", "Scarce"})

    def test_no_rate(self):
        for barred in ([], ["bb"], ["a", "b"]):
            band = Band("ab", barred)
            for thing in helper.no_whole_numbers() + [0, -1, 9, 10 ** 30]:
                self.refused(NoRate, Writer, band, thing, 1)
                self.refused(NoRate, Writer, band, 2, thing)
        self.refused(NoRate, Writer, Band("abc", []), 2, 4)


class Written(Refusing):
    def test_step_by_step(self):
        chance = random.Random(18)
        for signs, barred, many, wide in planned():
            writer = writer_of(signs, barred, many, wide)
            for length in (0, 1, 2, 7, chance.randint(3, 40)):
                data = [chance.randrange(many) for word in range(length)]
                row = writer.write(data)
                self.assertEqual(row, written(writer, data))
                self.assertTrue(helper.good(barred, row))
                self.assertEqual(set(row) - set(signs), set())
                self.assertEqual(len(row), len(writer.lead()) + (length + writer.ahead()) * wide)

    def test_150_words(self):
        chance = random.Random(150)
        for signs, barred, many, wide in helper.PLANNED:
            writer = writer_of(signs, barred, many, wide)
            for data in ([chance.randrange(many) for word in range(150)], [many - 1] * 150, [0] * 150):
                row = writer.write(data)
                self.assertEqual(row, written(writer, data))
                self.assertTrue(helper.good(barred, row))

    def test_no_data_at_all(self):
        for asked in planned(40):
            writer = writer_of(*asked)
            self.assertEqual(writer.write([]), written(writer, []))
        self.assertEqual(writer_of("ab", [], 2, 1).write([]), "")

    def test_every_row_of_data_is_good_and_unlike(self):
        seen = 0
        for signs, barred, many, wide in planned():
            writer = writer_of(signs, barred, many, wide)
            length = {2: 7, 3: 4, 4: 4}.get(many, 2)
            rows = [writer.write(list(data)) for data in itertools.product(range(many), repeat=length)]
            self.assertEqual(len(set(rows)), many ** length)
            self.assertTrue(all(helper.good(barred, row) for row in rows))
            self.assertEqual(set(len(row) for row in rows), {len(writer.lead()) + (length + writer.ahead()) * wide})
            seen += writer.ahead() > 0
        self.assertGreater(seen, 30)

    def test_what_is_no_list(self):
        for asked in (("ab", ["bb"], 4, 3), ("ab", [], 2, 1)):
            writer = writer_of(*asked)
            for thing in (None, "", "01", (), (0, 1), 0, 1, -1, {}, {0: 1}, True, False, 1.5, set(), {0}, b"", b"\x00",
                          range(2), iter([0]), object(), list, int):
                self.assertIsNone(self.refused(NoData, writer.write, thing).number)

    def test_the_first_thing_that_is_no_data_word(self):
        for signs, barred, many, wide in (("ab", ["bb"], 4, 3), ("ab", [], 2, 1), ("zab", ["zab"], 8, 2)):
            writer = writer_of(signs, barred, many, wide)
            for thing in helper.no_whole_numbers() + [many, many + 1, -1, -many, 10 ** 60, -10 ** 60]:
                for number in (0, 1, 5, 149):
                    data = [1] * number + [thing] + [0] * (149 - number)
                    self.assertEqual(self.refused(NoData, writer.write, data).number, number)
                self.assertEqual(self.refused(NoData, writer.write, [0, thing]).number, 1)
                self.assertEqual(self.refused(NoData, writer.write, [0, thing, None, thing]).number, 1)
            self.assertEqual(writer.write([many - 1, 0]), written(writer, [many - 1, 0]))

    def test_the_data_stay(self):
        for asked in helper.PLANNED:
            writer = writer_of(*asked)
            data = [1, 0, 1, 1]
            writer.write(data)
            self.assertEqual(data, [1, 0, 1, 1])
            bad = [1, 0, None, "x"]
            with self.assertRaises(BandError):
                writer.write(bad)
            self.assertEqual(bad, [1, 0, None, "x"])


class OnesOwn(Refusing):
    def test_what_is_given_may_be_changed(self):
        for asked in helper.PLANNED:
            writer = writer_of(*asked)
            before = all_told(writer)
            plan = writer.plan()
            self.assertIsNot(writer.plan(), plan)
            plan.weights.clear()
            for desk, numbers, weight in plan.splits:
                numbers.clear()
            plan.splits.append((0, [], 9))
            plan.kept.clear()
            sheet = plan.sheet()
            sheet.homes.clear()
            sheet.lines[0].clear()
            sheet.lines.clear()
            steps = writer.steps(0)
            steps[0] = ("?", 99)
            steps.pop()
            self.assertEqual(all_told(writer), before)

    def test_nothing_asked_changes_it(self):
        for signs, barred, many, wide in helper.PLANNED:
            band = Band(signs, barred)
            writer = Writer(band, many, wide)
            before = all_told(writer)
            writer.write([1] * 9)
            self.refused(NoData, writer.write, [0, many])
            plan_of(band, many, wide).weights.clear()
            other = Writer(band, many, wide)
            self.assertEqual(all_told(other), before)
            self.assertEqual(all_told(writer), before)

    def test_two_writers_of_one_band(self):
        band = Band("ab", ["bb"])
        first = Writer(band, 4, 3)
        before = all_told(first)
        second = Writer(band, 2, 2)
        self.assertEqual(second.write([1, 1]), written(second, [1, 1]))
        self.assertEqual(all_told(first), before)


if __name__ == "__main__":
    unittest.main()
