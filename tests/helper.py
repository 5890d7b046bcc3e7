"""Bands to ask, and what DOC.md says of them, worked out the slow way straight from its words."""

import functools
import itertools
import random
import unittest

from bandscribe.errors import BandError


class Refusing(unittest.TestCase):
    def refused(self, error_class, call, *given):
        with self.assertRaises(BandError) as caught:
            call(*given)
        self.assertEqual(type(caught.exception), error_class, given)
        return caught.exception


def texts_up_to(signs, most):
    texts = []
    for length in range(most + 1):
        texts.extend("".join(row) for row in itertools.product(signs, repeat=length))
    return texts


# Tuples (signs, barred, many, wide) that have plans, but only with weights that leave much to be split.
MANY_SPLITS = [
    ("bz9", ["9z9zb", "9999b", "9b9z9", "z9bbb", "9z9", "z"], 7, 3), ("b9a", ["b", "9aa99", "99baa", "bbbaa"], 7, 3),
    ("az95", ["z99", "5", "aa555", "azazz", "z5z5"], 8, 2), ("z59", ["zz555", "z59z", "z59", "95", "9z5", "955"], 5, 2),
    ("ab", ["baba", "bbbab"], 6, 3), ("b5", ["555b5", "5b5bb", "55bb5"], 3, 2), ("b0", ["0b00b"], 7, 3),
    ("9a", ["999a9", "99aaa", "9a9aa"], 8, 4), ("09", ["99900", "99999", "90090", "90909"], 3, 2),
    ("b5", ["5b5b", "55b5", "55bb5", "555", "5bb55", "5555"], 6, 4), ("0z", ["00z0z", "zzzz", "z0z00"], 5, 3),
    ("90b", ["b0b0b", "0b000", "bbb0b", "9bb00"], 8, 2), ("59", ["95999", "55959"], 6, 3),
    ("ba", ["babab", "bbab", "aaaba", "baaba", "bbbbb", "aaba"], 8, 5)]
# Such where little need be split.
FEW_SPLITS = [
    ("ab", ["bb"], 4, 3), ("05", ["00555", "0000"], 3, 2), ("bz", ["zbz", "zzzb", "zbbbz"], 3, 3),
    ("z5", ["zz5z5", "z5zzz", "zzz5z"], 5, 3), ("a5", ["555a5", "aa55a", "aaaaa", "5aa5a", "a55a"], 2, 2),
    ("0z", ["00z0z", "0z0zz", "zz", "0z00z", "z00z0"], 4, 5), ("ab", ["bab", "bba"], 2, 2), ("0a", ["a0a"], 3, 2),
    ("5a", ["a55a5", "a5555", "55aa", "555aa", "a55aa"], 7, 4), ("9z0", ["z090", "90009", "090", "0zz", "09909"], 6, 2),
    ("az", ["zaz", "aaazz", "zzaaa", "zazza", "zazza"], 3, 3), ("zab", ["zab"], 8, 2)]
# Such where nothing need be split.
NO_SPLITS = [
    ("ab", [], 2, 1), ("ab", [], 8, 6), ("abcd", ["a"], 3, 1), ("abcd", ["a", "b"], 4, 2), ("abc", ["aa", "bb"], 3, 3),
    ("90b", ["b0b0b", "0b000", "bbb0b", "9bb00"], 2, 1), ("59", ["95999", "55959"], 2, 6), ("ab", ["abbba"], 2, 4)]
PLANNED = MANY_SPLITS + FEW_SPLITS + NO_SPLITS


def small_bands():
    """All pairs (signs, barred) of the signs ab with at most two words of at most three signs."""
    words = [text for text in texts_up_to("ab", 3) if text]
    lists = [[]]
    for many in (1, 2):
        lists.extend(list(pick) for pick in itertools.combinations(words, many))
    return [("ab", barred) for barred in lists]


def mixed_bands(many=60):
    """Pairs with all numbers of signs, of words and of signs in a word; the same ones each time."""
    chance = random.Random(20)
    pairs = []
    for number in range(many):
        signs = "".join(chance.sample("abz059", chance.randint(2, 4)))
        barred = ["".join(chance.choices(signs, k=chance.randint(1, 5))) for word in range(chance.randint(0, 6))]
        pairs.append((signs, barred))
    return pairs


def rates_of(signs):
    return [(many, wide) for many in range(2, 9) for wide in range(1, most_wide(signs) + 1)]


def drawn_rates(many, seed):
    """Tuples (signs, barred, many, wide), at most of which there are nearly too few rows; for one seed the same ones each
    time."""
    chance = random.Random(seed)
    drawn = []
    while len(drawn) < many:
        signs = "".join(chance.sample("abz059", chance.choice((2, 2, 2, 3, 4))))
        words = chance.randint(0, 6)
        barred = ["".join(chance.choices(signs, k=chance.choice((1, 2, 3, 4, 5, 5, 5)))) for word in range(words)]
        wide = chance.randint(1, most_wide(signs))
        rows = counts_kept(signs, tuple(barred))[24 * wide]
        least_scarce = min([data for data in range(2, 9) if rows < data ** 24], default=9)
        data_words = least_scarce - chance.choice((0, 1, 1, 1, 2))
        if 2 <= data_words <= 8:
            drawn.append((signs, barred, data_words, wide))
    return drawn


def good(barred, row):
    return all(row.find(word) < 0 for word in barred)


def places(signs, barred):
    return list(places_kept(signs, tuple(barred)))


@functools.lru_cache(maxsize=None)
def places_kept(signs, barred):
    found = [""]
    for text in texts_up_to(signs, 4)[1:]:
        begins = any(word.startswith(text) and word != text for word in barred)
        if begins and good(barred, text):
            found.append(text)
    return sorted(found)


def longest_end(found, row):
    return max([place for place in found if row.endswith(place)], key=len)


def place_behind(signs, barred, row):
    return longest_end(places(signs, barred), row)


def led(signs, barred, place, sign):
    row = place + sign
    return place_behind(signs, barred, row) if good(barred, row) else None


def counts_behind(signs, barred, text, most):
    """For each length up to most, how many rows are good behind the text: rows with one tail are one lot."""
    tails = {text: 1}
    tails_behind = {}
    counts = [1]
    for length in range(most):
        longer = {}
        for tail, rows in tails.items():
            if tail not in tails_behind:
                tails_behind[tail] = [(tail + sign)[-4:] for sign in signs if good(barred, tail + sign)]
            for other in tails_behind[tail]:
                longer[other] = longer.get(other, 0) + rows
        tails = longer
        counts.append(sum(tails.values()))
    return counts


def live(signs, barred):
    # A row that passes more places than there are passes one twice, and can go round for ever.
    found = places(signs, barred)
    return [place for place in found if counts_behind(signs, barred, place, len(found) + 1)[-1] > 0]


def rows_of(signs, length):
    """All rows of a length, good or not, in the signs' order."""
    return ["".join(row) for row in itertools.product(signs, repeat=length)]


def good_rows(signs, barred, length):
    return [row for row in rows_of(signs, length) if good(barred, row)]


def shortest_bad(barred, row):
    return min(length for length in range(len(row) + 1) if not good(barred, row[:length]))


def most_wide(signs):
    return max(wide for wide in range(1, 7) if len(signs) ** wide <= 64)


def blocks(signs, barred, wide):
    """A dict from each live place to its list of pairs (word, end); to be read only, since it is kept."""
    return blocks_kept(signs, tuple(barred), wide)


@functools.lru_cache(maxsize=None)
def blocks_kept(signs, barred, wide):
    found, lasting = places(signs, barred), live(signs, barred)
    told = {}
    for place in lasting:
        rows = [row for row in rows_of(signs, wide) if good(barred, place + row)]
        pairs = [(row, longest_end(found, place + row)) for row in rows]
        told[place] = [(row, end) for row, end in pairs if end in lasting]
    return told


def weights_fit(blocks_told, many, weights):
    return all(sum(weights[end] for word, end in blocks_told[place]) >= many * weights[place] for place in blocks_told)


def all_weights(lasting, most):
    return [dict(zip(lasting, pick)) for pick in itertools.product(range(most + 1), repeat=len(lasting))]


def greatest(blocks_told, many, most):
    """Lowered by one wherever there is too much, again and again."""
    weights = {place: most for place in blocks_told}
    while True:
        heavy = [place for place in blocks_told
                 if sum(weights[end] for word, end in blocks_told[place]) < many * weights[place]]
        if not heavy:
            return weights
        for place in heavy:
            weights[place] -= 1


def outcome(signs, barred, many, wide):
    """What is told of a band and a rate of whole numbers: a tuple with the name of a refusal and its fields, or
    ("plan",)."""
    if not 2 <= many <= 8 or not 1 <= wide <= most_wide(signs):
        return ("NoRate",)
    counts = counts_kept(signs, tuple(barred))
    for length in range(1, 25):
        if counts[length * wide] < many ** length:
            return ("Scarce", length, counts[length * wide])
    for most in range(1, 9):
        weights = greatest(blocks(signs, barred, wide), many, most)
        if any(weights.values()):
            return ("Open",) if sum(weights.values()) > 40 else ("plan",)
    return ("Open",)


@functools.lru_cache(maxsize=None)
def counts_kept(signs, barred):
    return counts_behind(signs, barred, "", 24 * most_wide(signs))


def no_whole_numbers():
    """Things of each kind that are no whole numbers, truths first."""
    return [True, False, None, "", "0", "1", "2", 1.0, 2.0, 0.5, 1j, float("inf"), float("nan"), b"1", [], [1], [[]], (),
            (1,), {}, {1: 1}, {1}, frozenset(), object(), int]


def no_places():
    """Things that are no place of any band's whose signs are letters: of each kind one or more."""
    return [None, 0, 1, -1, True, False, 1.5, b"", b"a", [], ["a"], [[]], {}, {"a": "a"}, (), ("a",), set(), object(),
            "?", " ", "A", "aaaaa", "\ud800"]
