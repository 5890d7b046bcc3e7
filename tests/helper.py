"""Bands to ask, and what DOC.md says of them, worked out the slow way straight from its words."""

import itertools
import random


def texts_up_to(signs, most):
    texts = []
    for length in range(most + 1):
        texts.extend("".join(row) for row in itertools.product(signs, repeat=length))
    return texts


def small_bands():
    """All pairs (signs, barred) of the signs ab with at most two words of at most three signs."""
    words = [text for text in texts_up_to("ab", 3) if text]
    lists = [[]]
    for many in (1, 2):
        lists.extend(list(pick) for pick in itertools.combinations(words, many))
    return [("ab", barred) for barred in lists]


def mixed_bands(many=60):
    """Pairs with all numbers of signs, of words and of signs in a word; the same ones each time."""
    chance = random.Random(20)
    pairs = []
    for number in range(many):
        signs = "".join(chance.sample("abz059", chance.randint(2, 4)))
        barred = ["".join(chance.choices(signs, k=chance.randint(1, 5))) for word in range(chance.randint(0, 6))]
        pairs.append((signs, barred))
    return pairs


def good(barred, row):
    return all(row.find(word) < 0 for word in barred)


def places(signs, barred):
    found = [""]
    for text in texts_up_to(signs, 4)[1:]:
        begins = any(word.startswith(text) and word != text for word in barred)
        if begins and good(barred, text):
            found.append(text)
    return sorted(found)


def place_behind(signs, barred, row):
    ends = [place for place in places(signs, barred) if row.endswith(place)]
    return max(ends, key=len)


def led(signs, barred, place, sign):
    row = place + sign
    return place_behind(signs, barred, row) if good(barred, row) else None


def counts_behind(signs, barred, text, most):
    """For each length up to most, how many rows are good behind the text: rows with one tail are one lot."""
    tails = {text: 1}
    counts = [1]
    for length in range(most):
        longer = {}
        for tail, rows in tails.items():
            for sign in signs:
                row = tail + sign
                if good(barred, row):
                    longer[row[-4:]] = longer.get(row[-4:], 0) + rows
        tails = longer
        counts.append(sum(tails.values()))
    return counts


def live(signs, barred):
    # A row that passes more places than there are passes one twice, and can go round for ever.
    found = places(signs, barred)
    return [place for place in found if counts_behind(signs, barred, place, len(found) + 1)[-1] > 0]


def no_places():
    """Things that are no place of any band's whose signs are letters: of each kind one or more."""
    return [None, 0, 1, -1, True, False, 1.5, b"", b"a", [], ["a"], [[]], {}, {"a": "a"}, (), ("a",), set(), object(),
            "?", " ", "A", "aaaaa", "\ud800"]
