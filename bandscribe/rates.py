"""Weights of places that fit a rate, and lengths that are too scarce for it."""

from bandscribe.blocks import blocks_from, check_rate
from bandscribe.counts import counts_up_to


def block_ends(band, wide):
    ends = {}
    for place in band.live():
        ends[place] = [end for word, end in blocks_from(band, place, wide)]
    return ends


def weight_of(places, weights):
    return sum([weights[place] for place in places])


def fits(band, many, wide, weights):
    check_rate(band, many, wide)
    ends = block_ends(band, wide)
    return all([weight_of(ends[place], weights) >= many * weights[place] for place in ends])


def lowered(ends, many, weights):
    lower = {}
    for place in ends:
        lower[place] = min(weights[place], weight_of(ends[place], weights) // many)
    return lower


def greatest(band, many, wide, most):
    check_rate(band, many, wide)
    ends = block_ends(band, wide)
    weights = {}
    for place in ends:
        weights[place] = most
    # No weights that fit are above these at the outset, nor after a lowering; so the first that fit are the greatest.
    while True:
        lower = lowered(ends, many, weights)
        if lower == weights:
            return weights
        weights = lower


def scarce(band, many, wide, most):
    check_rate(band, many, wide)
    table = counts_up_to(band, most * wide)
    rows_of_data = 1
    for length in range(1, most + 1):
        rows_of_data *= many
        if table[length * wide][""] < rows_of_data:
            return length
    return None
