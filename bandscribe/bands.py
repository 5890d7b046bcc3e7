"""Bands: their signs and barred words, their places, and where signs lead from these."""

from bandscribe.errors import Barred, NoPlace, NoRow, NoSigns, NoWord, TooMany

# Written out, since Python counts letters and figures of other scripts as such too.
KNOWN_SIGNS = "abcdefghijklmnopqrstuvwxyz0123456789"


def all_among(text, signs):
    return all([sign in signs for sign in text])


def are_signs(thing):
    if not isinstance(thing, str) or len(thing) < 2 or len(thing) > 4:
        return False
    return len(set(thing)) == len(thing) and all_among(thing, KNOWN_SIGNS)


def is_word(thing, signs):
    if not isinstance(thing, str) or len(thing) < 1 or len(thing) > 5:
        return False
    return all_among(thing, signs)


def check_barred(barred, signs):
    if len(barred) > 6:
        raise TooMany(len(barred))
    for number, thing in enumerate(barred):
        if not is_word(thing, signs):
            raise NoWord(number)


def bears_barred(row, barred):
    return any([word in row for word in barred])


def sorted_places(barred):
    found = {"": True}
    for word in barred:
        for length in range(1, len(word)):
            beginning = word[:length]
            if not bears_barred(beginning, barred):
                found[beginning] = True
    return sorted(found)


def longest_end(row, places):
    cut = 0
    # The empty end is always a place, so the walk ends.
    while row[cut:] not in places:
        cut += 1
    return row[cut:]


def moves_from(place, signs, barred, places):
    moves = {}
    for sign in signs:
        row = place + sign
        moves[sign] = None if bears_barred(row, barred) else longest_end(row, places)
    return moves


def leads_into(ends, lot):
    return any([end in lot for end in ends])


def live_among(moves):
    # What leads out of the lot altogether can be in no such lot, so what is left at last is the greatest one.
    lot = list(moves)
    while True:
        left = [place for place in lot if leads_into(list(moves[place].values()), lot)]
        if left == lot:
            return lot
        lot = left


class Band:
    def __init__(self, signs, barred):
        if not are_signs(signs):
            raise NoSigns("signs are two to four unlike ones from a to z and 0 to 9")
        check_barred(barred, signs)
        self.signs = signs
        self.barred = list(barred)
        self.moves = {}
        places = sorted_places(barred)
        for place in places:
            self.moves[place] = moves_from(place, signs, barred, places)
        self.lasting = live_among(self.moves)

    def check_row(self, row):
        for number, sign in enumerate(row):
            if sign not in self.signs:
                raise NoRow(number)

    def check_place(self, place):
        # A list or dict can't be looked up in a dict, so the kind is asked first.
        if not isinstance(place, str) or place not in self.moves:
            raise NoPlace(place)

    def check_live(self, place):
        if not isinstance(place, str) or place not in self.lasting:
            raise NoPlace(place)

    def is_good(self, row):
        self.check_row(row)
        return not bears_barred(row, self.barred)

    def places(self):
        return list(self.moves)

    def live(self):
        return list(self.lasting)

    def place_of(self, row):
        self.check_row(row)
        place = ""
        for number, sign in enumerate(row):
            place = self.moves[place][sign]
            if place is None:
                raise Barred(number + 1)
        return place

    def led(self, place, sign):
        self.check_place(place)
        return self.moves[place][sign]

    def longest(self):
        return max([len(word) for word in self.barred], default=0)
