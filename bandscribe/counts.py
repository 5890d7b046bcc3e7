"""How many good rows of a length there are, and how many go on from a place."""


def ends_from(band, place):
    ends = [band.led(place, sign) for sign in band.signs]
    return [end for end in ends if end is not None]


def all_ends(band):
    ends = {}
    for place in band.places():
        ends[place] = ends_from(band, place)
    return ends


def counts_up_to(band, length):
    # One dict from places to counts for each length from 0 on, since each is made of the one ahead of it.
    ends = all_ends(band)
    counts = {}
    for place in ends:
        counts[place] = 1
    table = [counts]
    for step in range(length):
        longer = {}
        for place in ends:
            longer[place] = sum([counts[end] for end in ends[place]])
        table.append(longer)
        counts = longer
    return table


def count_from(band, place, length):
    band.check_place(place)
    return counts_up_to(band, length)[-1][place]


def count(band, length):
    return count_from(band, "", length)
