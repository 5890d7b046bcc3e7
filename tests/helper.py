"""Bands to ask, and what DOC.md says of them, worked out the slow way straight from its words."""

import functools
import itertools
import random
import unittest

from bandscribe.errors import BandError


class Refusing(unittest.TestCase):
    def refused(self, error_class, call, *given):
        with self.assertRaises(BandError) as caught:
            call(*given)
        self.assertEqual(type(caught.exception), error_class, given)
        return caught.exception


def texts_up_to(signs, most):
    texts = []
    for length in range(most + 1):
        texts.extend("".join(row) for row in itertools.product(signs, repeat=length))
    return texts


def small_bands():
    """All pairs (signs, barred) of the signs ab with at most two words of at most three signs."""
    words = [text for text in texts_up_to("ab", 3) if text]
    lists = [[]]
    for many in (1, 2):
        lists.extend(list(pick) for pick in itertools.combinations(words, many))
    return [("ab", barred) for barred in lists]


def mixed_bands(many=60):
    """Pairs with all numbers of signs, of words and of signs in a word; the same ones each time."""
    chance = random.Random(20)
    pairs = []
    for number in range(many):
        signs = "".join(chance.sample("abz059", chance.randint(2, 4)))
        barred = ["".join(chance.choices(signs, k=chance.randint(1, 5))) for word in range(chance.randint(0, 6))]
        pairs.append((signs, barred))
    return pairs


def good(barred, row):
    return all(row.find(word) < 0 for word in barred)


def places(signs, barred):
    found = [""]
    for text in texts_up_to(signs, 4)[1:]:
        begins = any(word.startswith(text) and word != text for word in barred)
        if begins and good(barred, text):
            found.append(text)
    return sorted(found)


def longest_end(found, row):
    return max([place for place in found if row.endswith(place)], key=len)


def place_behind(signs, barred, row):
    return longest_end(places(signs, barred), row)


def led(signs, barred, place, sign):
    row = place + sign
    return place_behind(signs, barred, row) if good(barred, row) else None


def counts_behind(signs, barred, text, most):
    """For each length up to most, how many rows are good behind the text: rows with one tail are one lot."""
    tails = {text: 1}
    counts = [1]
    for length in range(most):
        longer = {}
        for tail, rows in tails.items():
            for sign in signs:
                row = tail + sign
                if good(barred, row):
                    longer[row[-4:]] = longer.get(row[-4:], 0) + rows
        tails = longer
        counts.append(sum(tails.values()))
    return counts


def live(signs, barred):
    # A row that passes more places than there are passes one twice, and can go round for ever.
    found = places(signs, barred)
    return [place for place in found if counts_behind(signs, barred, place, len(found) + 1)[-1] > 0]


def rows_of(signs, length):
    """All rows of a length, good or not, in the signs' order."""
    return ["".join(row) for row in itertools.product(signs, repeat=length)]


def good_rows(signs, barred, length):
    return [row for row in rows_of(signs, length) if good(barred, row)]


def shortest_bad(barred, row):
    return min(length for length in range(len(row) + 1) if not good(barred, row[:length]))


def most_wide(signs):
    return max(wide for wide in range(1, 7) if len(signs) ** wide <= 64)


def blocks(signs, barred, wide):
    """A dict from each live place to its list of pairs (word, end); to be read only, since it is kept."""
    return blocks_kept(signs, tuple(barred), wide)


@functools.lru_cache(maxsize=None)
def blocks_kept(signs, barred, wide):
    found, lasting = places(signs, barred), live(signs, barred)
    told = {}
    for place in lasting:
        rows = [row for row in rows_of(signs, wide) if good(barred, place + row)]
        pairs = [(row, longest_end(found, place + row)) for row in rows]
        told[place] = [(row, end) for row, end in pairs if end in lasting]
    return told


def weights_fit(blocks_told, many, weights):
    return all(sum(weights[end] for word, end in blocks_told[place]) >= many * weights[place] for place in blocks_told)


def all_weights(lasting, most):
    return [dict(zip(lasting, pick)) for pick in itertools.product(range(most + 1), repeat=len(lasting))]


def no_whole_numbers():
    """Things of each kind that are no whole numbers, truths first."""
    return [True, False, None, "", "0", "1", "2", 1.0, 2.0, 0.5, 1j, float("inf"), float("nan"), b"1", [], [1], [[]], (),
            (1,), {}, {1: 1}, {1}, frozenset(), object(), int]


def no_places():
    """Things that are no place of any band's whose signs are letters: of each kind one or more."""
    return [None, 0, 1, -1, True, False, 1.5, b"", b"a", [], ["a"], [[]], {}, {"a": "a"}, (), ("a",), set(), object(),
            "?", " ", "A", "aaaaa", "\ud800"]
