"""Sheets of desks, the first one for a rate and weights, and how a desk is split."""

from bandscribe.blocks import blocks_from, check_rate
from bandscribe.errors import NoSplit


def copied_steps(line):
    return [(word, end) for word, end in line]


class Sheet:
    def __init__(self, homes, weights, lines):
        self.homes = list(homes)
        self.weights = list(weights)
        self.lines = [copied_steps(line) for line in lines]


def first_sheet(band, many, wide, weights):
    check_rate(band, many, wide)
    homes = [place for place in band.live() if weights[place] > 0]
    lines = []
    for place in homes:
        blocks = blocks_from(band, place, wide)
        lines.append([(word, homes.index(end)) for word, end in blocks if end in homes])
    return Sheet(homes, [weights[place] for place in homes], lines)


def is_number_of(number, things):
    # A number below 0 would be counted from the end.
    return number >= 0 and number < len(things)


def check_part(sheet, many, steps, weight):
    if len(steps) == 0:
        raise NoSplit("a part of the desk has no steps")
    if weight < 1:
        raise NoSplit("a part of the desk has no weight")
    if sum([sheet.weights[end] for word, end in steps]) < many * weight:
        raise NoSplit("the steps of a part lead to too little weight")


def with_twins(line, desk, twin):
    steps = []
    for word, end in line:
        steps.append((word, end))
        if end == desk:
            steps.append((word, twin))
    return steps


def split(sheet, many, desk, numbers, weight):
    if not is_number_of(desk, sheet.lines):
        raise NoSplit("there is no such desk")
    line = sheet.lines[desk]
    if not all([is_number_of(number, line) for number in numbers]):
        raise NoSplit("the desk has no such step")
    chosen = [step for number, step in enumerate(line) if number in numbers]
    others = [step for number, step in enumerate(line) if number not in numbers]
    rest = sheet.weights[desk] - weight
    check_part(sheet, many, chosen, weight)
    check_part(sheet, many, others, rest)
    lines = sheet.lines + [others]
    lines[desk] = chosen
    weights = sheet.weights + [rest]
    weights[desk] = weight
    twin = len(sheet.lines)
    return Sheet(sheet.homes + [sheet.homes[desk]], weights, [with_twins(steps, desk, twin) for steps in lines])
