"""Rates, and the blocks of signs that lead from a live place to a live one."""

from bandscribe.errors import NoRate
from bandscribe.kinds import is_whole


def all_rows(band, wide):
    rows = 1
    for step in range(wide):
        rows *= len(band.signs)
    return rows


def is_rate(band, many, wide):
    if not is_whole(many) or many < 2 or many > 8:
        return False
    # The bound on wide stands ahead of the rows, so that a huge one costs nothing.
    if not is_whole(wide) or wide < 1 or wide > 6:
        return False
    return all_rows(band, wide) <= 64


def check_rate(band, many, wide):
    if not is_rate(band, many, wide):
        raise NoRate("a rate is 2 to 8 words for 1 to 6 signs of which there are at most 64 rows")
    return True


def longer_rows(band, rows):
    # Rows in order, each made longer by the signs in order, are in order again.
    longer = []
    for word, place in rows:
        for sign in band.signs:
            end = band.led(place, sign)
            if end is not None:
                longer.append((word + sign, end))
    return longer


def blocks_from(band, place, wide):
    band.check_live(place)
    rows = [("", place)]
    for step in range(wide):
        rows = longer_rows(band, rows)
    live = band.live()
    return [(word, end) for word, end in rows if end in live]
