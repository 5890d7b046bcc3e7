"""The good rows of a length in their order: the row of a number, and the number of a row."""

from bandscribe.counts import counts_up_to
from bandscribe.errors import NoNumber
from bandscribe.kinds import is_whole


def rows_through(band, place, sign, counts):
    end = band.led(place, sign)
    return 0 if end is None else counts[end]


def row_at(band, length, number):
    table = counts_up_to(band, length)
    if not is_whole(number) or number < 0 or number >= table[length][""]:
        raise NoNumber("no good row of this length has such a number")
    row = ""
    place = ""
    rest = number
    for taken in range(length):
        counts = table[length - taken - 1]
        for sign in band.signs:
            rows = rows_through(band, place, sign, counts)
            if rest < rows:
                row += sign
                place = band.led(place, sign)
                break
            rest -= rows
    return row


def number_of(band, row):
    # Asked for its refusals: what comes behind leans on a good row.
    band.place_of(row)
    table = counts_up_to(band, len(row))
    number = 0
    place = ""
    for taken, sign in enumerate(row):
        counts = table[len(row) - taken - 1]
        ahead = band.signs[:band.signs.index(sign)]
        number += sum([rows_through(band, place, other, counts) for other in ahead])
        place = band.led(place, sign)
    return number
