"""What several test files need: webs to ask about, looking at what is told, and sharing no list."""

import copy
from itertools import product
from random import Random

SIXTY = 10 ** 60 - 1
NO_PLACES = ([], [])


def web_of(size):
    """A web in which any two places and any two pairs differ."""
    rows = [[10 * min(u, v) + max(u, v) - 20 for v in range(size)] for u in range(size)]
    return ([100 + u for u in range(size)], rows)


def web_by_pairs(hues, weights):
    """The web whose weights, of the pairs u, v with u up to v, are read row by row."""
    size = len(hues)
    left = list(weights)
    rows = [[0] * size for u in range(size)]
    for u in range(size):
        for v in range(u, size):
            rows[u][v] = rows[v][u] = left.pop(0)
    return (list(hues), rows)


def all_webs(size, hues, weights):
    """Every web of so many places with hues and weights among those."""
    for hues_there in product(hues, repeat=size):
        for weights_there in product(weights, repeat=size * (size + 1) // 2):
            yield web_by_pairs(hues_there, weights_there)


def some_webs(size, hues, weights, count, seed):
    """So many webs, the same ones each time."""
    chance = Random(seed)
    for turn in range(count):
        hues_there = [chance.choice(hues) for u in range(size)]
        yield web_by_pairs(hues_there, [chance.choice(weights) for pair in range(size * (size + 1) // 2)])


def ring(*sizes):
    """A web of one hue: rings of so many places each, weights 1 along them."""
    size = sum(sizes)
    rows = [[0] * size for u in range(size)]
    first = 0
    for places in sizes:
        for k in range(places):
            u, v = first + k, first + (k + 1) % places
            rows[u][v] = rows[v][u] = 1
        first += places
    return ([0] * size, rows)


def lists_in(value):
    """Every list in a value, at whatever depth, the value itself among them."""
    if not isinstance(value, (list, tuple)):
        return []
    found = [value] if isinstance(value, list) else []
    for part in value:
        found.extend(lists_in(part))
    return found


def spoil(value):
    """Change every list in a value."""
    for one in lists_in(value):
        one.insert(0, "spoilt")
        one.append("spoilt")


def check_own(case, ask, handed):
    """What is handed in stays, what is told is the asker's own, and is told again when asked again."""
    before = copy.deepcopy(handed)
    told = ask(*handed)
    case.assertEqual(handed, before)
    kept = copy.deepcopy(told)
    again = ask(*handed)
    case.assertEqual(again, kept)
    told_lists = lists_in(told) + lists_in(again)
    case.assertEqual(len({id(one) for one in told_lists}), len(told_lists), "a list is told twice")
    handed_ids = {id(one) for part in handed for one in lists_in(part)}
    case.assertFalse(handed_ids & {id(one) for one in told_lists}, "a handed list is told")
    spoil(told)
    case.assertEqual(handed, before)
    case.assertEqual(again, kept)
    case.assertEqual(ask(*handed), kept)
    last = ask(*handed)
    for part in handed:
        spoil(part)
    case.assertEqual(last, kept)
    case.assertEqual(ask(*before), kept)


def is_whole(value):
    return isinstance(value, int) and not isinstance(value, bool)


def as_told(value):
    return (value.numerator, value.denominator)
