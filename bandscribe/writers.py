"""Writers: data written in rows that bear no barred word."""

from bandscribe.errors import NoData
from bandscribe.kinds import is_whole
from bandscribe.plans import Plan, plan_of, steps_into


def blocks_behind(band, wide):
    signs = max(band.longest() - 1, 0)
    return (signs + wide - 1) // wide


def steps_by_new_numbers(line, kept, many):
    return [(word, kept.index(end)) for word, end in steps_into(line, kept)[:many]]


def check_data(data, many):
    if not isinstance(data, list):
        raise NoData(None)
    for number, thing in enumerate(data):
        if not is_whole(thing) or thing < 0 or thing >= many:
            raise NoData(number)


def walked(lines, desk, data):
    row = ""
    for thing in data:
        step = lines[desk][thing]
        row += step[0]
        desk = step[1]
    return (row, desk)


class Writer:
    def __init__(self, band, many, wide):
        self.scheme = plan_of(band, many, wide)
        self.band = band
        self.many = many
        self.wide = wide
        sheet = self.scheme.sheet()
        kept = self.scheme.kept
        self.homes = [sheet.homes[desk] for desk in kept]
        self.lines = [steps_by_new_numbers(sheet.lines[desk], kept, many) for desk in kept]
        # No place is longer than so many blocks, so what stands ahead of them tells nothing of the place behind them.
        found = walked(self.lines, 0, [0] * self.behind())
        self.opening = found[0]
        self.first = found[1]

    def behind(self):
        return blocks_behind(self.band, self.wide)

    def ahead(self):
        return len(self.scheme.splits)

    def start(self):
        return self.first

    def lead(self):
        return self.opening

    def desks(self):
        return len(self.homes)

    def place_at(self, desk):
        return self.homes[desk]

    def steps(self, desk):
        return [(word, end) for word, end in self.lines[desk]]

    def write(self, data):
        check_data(data, self.many)
        found = walked(self.lines, self.first, data + [0] * self.ahead())
        return self.opening + found[0]

    def plan(self):
        return Plan(self.scheme.weights, self.scheme.splits, self.scheme.kept, self.scheme.last)
