"""Readers: the data of written rows, each word told by a window of signs."""

from bandscribe.errors import NoLength, NoNumber
from bandscribe.kinds import is_whole


def steps_by_word(writer):
    # From each word to the pairs (desk, end) of all steps that have it.
    steps = {}
    for desk in range(writer.desks()):
        for word, end in writer.steps(desk):
            steps.setdefault(word, []).append((desk, end))
    return steps


def desks_into(pairs, ends):
    wanted = {}
    for end in ends:
        wanted[end] = True
    found = {}
    for desk, end in pairs:
        if end in wanted:
            found[desk] = True
    return list(found)


class Reader:
    def __init__(self, writer):
        self.writer = writer
        self.pairs = steps_by_word(writer)

    def blocks_in_window(self):
        return self.writer.behind() + 1 + self.writer.ahead()

    def desks_ahead_of(self, row):
        # Block by block from the row's end, so that a step is looked at once a block, however many ways there are.
        wide = self.writer.wide
        blocks = [row[start:start + wide] for start in range(0, len(row), wide)]
        desks = list(range(self.writer.desks()))
        for block in reversed(blocks):
            desks = desks_into(self.pairs.get(block, []), desks)
        return desks

    def word_fitting(self, window):
        # Asked of a row of the right length alone.
        start = self.writer.behind() * self.writer.wide
        end = start + self.writer.wide
        if not self.writer.band.is_good(window[:start]):
            return None
        place = self.writer.band.place_of(window[:start])
        desks = self.desks_ahead_of(window[end:])
        for desk in range(self.writer.desks()):
            if self.writer.place_at(desk) == place:
                for number, step in enumerate(self.writer.steps(desk)):
                    if step[0] == window[start:end] and step[1] in desks:
                        return number
        return None

    def word_of(self, window):
        self.writer.band.check_row(window)
        if len(window) != self.blocks_in_window() * self.writer.wide:
            raise NoLength(len(window))
        return self.word_fitting(window)

    def words_in(self, length):
        # How many words are read of a row of this length; one that is none is refused here.
        signs = length - len(self.writer.lead())
        words = signs // self.writer.wide - self.writer.ahead()
        if signs % self.writer.wide != 0 or words < 0:
            raise NoLength(length)
        return words

    def read(self, row):
        self.writer.band.check_row(row)
        wide = self.writer.wide
        signs = self.blocks_in_window() * wide
        first = len(self.writer.lead()) - self.writer.behind() * wide
        starts = [first + number * wide for number in range(self.words_in(len(row)))]
        return [self.word_fitting(row[start:start + signs]) for start in starts]

    def touched(self, length, number):
        words = self.words_in(length)
        if not is_whole(number) or number < 0 or number >= length:
            raise NoNumber("no sign of such a row has this number")
        # The block in which the sign stands; below 0 within the lead.
        block = (number - len(self.writer.lead())) // self.writer.wide
        return list(range(max(block - self.writer.ahead(), 0), min(block + self.writer.behind() + 1, words)))
