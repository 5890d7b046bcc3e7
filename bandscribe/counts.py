"""How many good rows of a length there are, and how many go on from a place."""


def ends_from(band, place):
    ends = [band.led(place, sign) for sign in band.signs]
    return [end for end in ends if end is not None]


def all_ends(band):
    ends = {}
    for place in band.places():
        ends[place] = ends_from(band, place)
    return ends


def counts_at(band, length):
    ends = all_ends(band)
    counts = {}
    for place in ends:
        counts[place] = 1
    for step in range(length):
        longer = {}
        for place in ends:
            longer[place] = sum([counts[end] for end in ends[place]])
        counts = longer
    return counts


def count_from(band, place, length):
    band.check_place(place)
    return counts_at(band, length)[place]


def count(band, length):
    return count_from(band, "", length)
