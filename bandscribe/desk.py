"""The desk: rows of words that are answered with texts."""

from bandscribe.bands import Band
from bandscribe.counts import count
from bandscribe.errors import NoBand, NoForm, NoWriter, Open, Scarce
from bandscribe.numbers import number_of, row_at
from bandscribe.readers import Reader
from bandscribe.writers import Writer

FIGURES = "0123456789"
MOST_FIGURES = 60
MOST_SIGNS = 200


def is_number(word):
    if len(word) < 1 or len(word) > MOST_FIGURES:
        return False
    if word[0] == "0" and word != "0":
        return False
    return all([sign in FIGURES for sign in word])


def are_numbers(words):
    return all([is_number(word) for word in words])


def is_length(word):
    return is_number(word) and int(word) <= MOST_SIGNS


def has_form(first, others):
    if first == "band":
        return len(others) > 0
    if first == "write":
        return are_numbers(others)
    if first in ("number", "read"):
        return len(others) == 1
    if first == "count":
        return len(others) == 1 and is_length(others[0])
    if first == "row":
        return len(others) == 2 and is_length(others[0]) and is_number(others[1])
    if first in ("rate", "touched"):
        return len(others) == 2 and are_numbers(others)
    return False


def shown(thing):
    return "-" if thing is None else str(thing)


def listed(things):
    return " ".join([shown(thing) for thing in things]) if len(things) > 0 else "none"


def answer_of_band(band, first, others):
    if first == "count":
        return str(count(band, int(others[0])))
    if first == "row":
        return row_at(band, int(others[0]), int(others[1]))
    return str(number_of(band, others[0]))


def answer_of_writer(writer, first, others):
    if first == "write":
        return writer.write([int(word) for word in others])
    if first == "read":
        return listed(Reader(writer).read(others[0]))
    return listed(Reader(writer).touched(int(others[0]), int(others[1])))


class Desk:
    def __init__(self):
        self.band = None
        self.writer = None

    def say(self, row):
        words = row.split(" ")
        first = words[0]
        others = words[1:]
        if not has_form(first, others):
            raise NoForm("no row has this form")
        if first == "band":
            return self.take_band(others[0], others[1:])
        if self.band is None:
            raise NoBand("no band stands yet")
        if first == "rate":
            return self.take_rate(int(others[0]), int(others[1]))
        if first in ("count", "row", "number"):
            return answer_of_band(self.band, first, others)
        if self.writer is None:
            raise NoWriter("no writer stands yet")
        return answer_of_writer(self.writer, first, others)

    def take_band(self, signs, barred):
        self.band = Band(signs, barred)
        self.writer = None
        return "ok"

    def take_rate(self, many, wide):
        try:
            self.writer = Writer(self.band, many, wide)
        except Scarce as refusal:
            length = refusal.length
            rows = refusal.rows
            return f"scarce {length} {rows}"
        except Open:
            return "open"
        return "ok"
