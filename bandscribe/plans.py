"""Plans: weights, splits and kept desks of which a writer for a band and a rate can be made."""

from bandscribe.blocks import check_rate
from bandscribe.counts import count
from bandscribe.errors import Open, Scarce
from bandscribe.rates import greatest, scarce
from bandscribe.sheets import Sheet, first_sheet, split

MOST_BLOCKS = 24
MOST_WEIGHT = 8
MOST_WEIGHT_IN_ALL = 40


def copied_sheet(sheet):
    return Sheet(sheet.homes, sheet.weights, sheet.lines)


class Plan:
    def __init__(self, weights, splits, kept, last):
        self.weights = dict(weights)
        self.splits = [(desk, list(numbers), weight) for desk, numbers, weight in splits]
        self.kept = list(kept)
        self.last = copied_sheet(last)

    def sheet(self):
        return copied_sheet(self.last)


def check_not_scarce(band, many, wide):
    length = scarce(band, many, wide, MOST_BLOCKS)
    if length is not None:
        raise Scarce(length, count(band, length * wide))


def weights_of_least_most(band, many, wide):
    for most in range(1, MOST_WEIGHT + 1):
        weights = greatest(band, many, wide, most)
        in_all = sum(weights.values())
        if in_all > MOST_WEIGHT_IN_ALL:
            raise Open("the weights that fit come to too much")
        if in_all > 0:
            return weights
    raise Open("no weights fit but noughts")


def reached_from(sheet, desk):
    reached = {}
    waiting = [desk]
    while len(waiting) > 0:
        line = sheet.lines[waiting.pop()]
        for word, end in line:
            if end not in reached:
                reached[end] = True
                waiting.append(end)
    return list(reached)


def closed_weights(band, many, wide, weights):
    # The steps of desks reached from some desk lead to such ones alone, so their weights fit by themselves. The fewer
    # there are the less must be split, and the shorter are the windows.
    sheet = first_sheet(band, many, wide, weights)
    lots = [reached_from(sheet, desk) for desk in range(len(sheet.homes))]
    homes = [sheet.homes[desk] for desk in min(lots, key=len)]
    closed = {}
    for place in weights:
        closed[place] = weights[place] if place in homes else 0
    return closed


def steps_into(line, desks):
    return [(word, end) for word, end in line if end in desks]


def kept_desks(sheet, many):
    kept = list(range(len(sheet.lines)))
    while True:
        left = [desk for desk in kept if len(steps_into(sheet.lines[desk], kept)) >= many]
        if left == kept:
            return kept
        kept = left


def step_down(sheet):
    # If all steps of the heaviest desks led to heaviest ones, each of these would have many such steps and be kept. So
    # where no desk is kept there is a step from a heaviest one to a lighter one.
    heaviest = max(sheet.weights)
    for desk, line in enumerate(sheet.lines):
        for number, step in enumerate(line):
            if sheet.weights[desk] == heaviest and sheet.weights[step[1]] < heaviest:
                return (desk, number)
    return None


def run_by(weights, numbers, many):
    # The sums of the none, one, two .. first of many weights are many and one, so two leave the same rest by many.
    taken_at = {0: 0}
    total = 0
    for taken, number in enumerate(numbers, start=1):
        total += weights[number]
        if total % many in taken_at:
            return numbers[taken_at[total % many]:taken]
        taken_at[total % many] = taken
    return []


def next_split(sheet, many):
    # A heaviest desk with a step to a lighter one has more than many steps. Of many of them, this one among them, a
    # run leads to just many times some weight, less than the desk's own; the other steps then lead to enough for the
    # rest. Both parts are lighter than the desk was, so there is an end to this.
    found = step_down(sheet)
    desk = found[0]
    weights = [sheet.weights[end] for word, end in sheet.lines[desk]]
    others = [number for number in range(len(weights)) if number != found[1]]
    numbers = run_by(weights, [found[1]] + others[:many - 1], many)
    return (desk, numbers, sum([weights[number] for number in numbers]) // many)


def plan_of(band, many, wide):
    check_rate(band, many, wide)
    check_not_scarce(band, many, wide)
    weights = closed_weights(band, many, wide, weights_of_least_most(band, many, wide))
    sheet = first_sheet(band, many, wide, weights)
    splits = []
    kept = kept_desks(sheet, many)
    while len(kept) == 0:
        part = next_split(sheet, many)
        sheet = split(sheet, many, part[0], part[1], part[2])
        splits.append(part)
        kept = kept_desks(sheet, many)
    return Plan(weights, splits, kept, sheet)
