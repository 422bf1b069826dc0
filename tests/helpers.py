"""What several test files need: webs and tables to ask about, looking at what is told, and sharing no list."""

import copy
from collections import Counter
from fractions import Fraction
from itertools import permutations, product
from math import gcd
from random import Random

from evenkin.errors import KinError

SIXTY = 10 ** 60 - 1
NO_PLACES = ([], [])
ONE_PLACE = ([0], [[0]])
TWO = ([0, 1], [[2, -3], [-3, 5]])
THREE = ([0, 1, 0], [[2, -3, 0], [-3, 0, 5], [0, 5, 7]])
PATH = ([0, 0, 0], [[0, 1, 0], [1, 0, 1], [0, 1, 0]])
LARGE = ([5, 5], [[SIXTY, -SIXTY], [-SIXTY, SIXTY - 1]])
LARGE_TWO = ([0, SIXTY], [[SIXTY, -SIXTY], [-SIXTY, SIXTY - 1]])
# An order of eight places.
ORDER = [3, 1, 0, 7, 6, 2, 5, 4]
FRACTIONS = ((0, 1), (1, 1), (-1, 1), (1, 2), (-5, 6), (9, 4))
LARGE_FRACTIONS = ((SIXTY, 1), (-SIXTY, SIXTY - 1), (1, SIXTY), (-1, 10 ** 59), (7, 2 ** 199), (SIXTY - 1, SIXTY))


def web_of(size):
    """A web in which any two places and any two pairs differ."""
    rows = [[10 * min(u, v) + max(u, v) - 20 for v in range(size)] for u in range(size)]
    return ([100 + u for u in range(size)], rows)


def web_by_pairs(hues, weights):
    """The web whose weights, of the pairs u, v with u up to v, are read row by row."""
    size = len(hues)
    left = list(weights)
    rows = [[0] * size for u in range(size)]
    for u in range(size):
        for v in range(u, size):
            rows[u][v] = rows[v][u] = left.pop(0)
    return (list(hues), rows)


def all_webs(size, hues, weights):
    """Every web of so many places with hues and weights among those."""
    for hues_there in product(hues, repeat=size):
        for weights_there in product(weights, repeat=size * (size + 1) // 2):
            yield web_by_pairs(hues_there, weights_there)


def some_webs(size, hues, weights, count, seed):
    """So many webs, the same ones each time."""
    chance = Random(seed)
    for turn in range(count):
        hues_there = [chance.choice(hues) for u in range(size)]
        yield web_by_pairs(hues_there, [chance.choice(weights) for pair in range(size * (size + 1) // 2)])


EIGHT = next(some_webs(8, (0, 1, 5), (-4, -1, 0, 0, 1, 2, 3), 1, 8))
# Webs to reckon terms and steps in.
TERM_WEBS = (NO_PLACES, ([0], [[3]]), ([4], [[0]]), ([1], [[-2]]), TWO, THREE, LARGE_TWO, EIGHT, web_of(8))


def ring(*sizes):
    """A web of one hue: rings of so many places each, weights 1 along them."""
    size = sum(sizes)
    rows = [[0] * size for u in range(size)]
    first = 0
    for places in sizes:
        for k in range(places):
            u, v = first + k, first + (k + 1) % places
            rows[u][v] = rows[v][u] = 1
        first += places
    return ([0] * size, rows)


def web_of_ties(size, ties):
    """A web of one hue with the weight 1 between the two places that each word of two figures names."""
    rows = [[0] * size for u in range(size)]
    for tie in ties.split():
        u, v = int(tie[0]), int(tie[1])
        rows[u][v] = rows[v][u] = 1
    return ([0] * size, rows)


# Two webs each whose lots are as many here as there for eight, seven and seven turns, and are not so behind them.
LATE_PAIRS = tuple((web_of_ties(8, ties), web_of_ties(8, ties_there)) for ties, ties_there in (
    ("02 03 05 07 13 14 15 16 26 33 37 45 46 47 57 66", "00 01 05 06 12 14 15 24 25 27 33 34 35 36 44 66 67"),
    ("02 07 12 15 16 24 33 35 46 57", "01 05 06 13 17 24 25 33 45 67"),
    ("02 04 05 11 15 17 23 26 33 35 45 46 57 67", "02 05 06 11 14 16 24 25 33 36 37 47 56 67"),
))


def web_of_own_weights(weights, hue=0):
    """A web of one hue whose places have weights with themselves alone."""
    size = len(weights)
    return ([hue] * size, [[weights[u] if u == v else 0 for v in range(size)] for u in range(size)])


# The sums of their first to seventh powers are alike, those of their eighth are not.
LIKE_POWERS = (web_of_own_weights([0, 4, 9, 23, 27, 41, 46, 50]), web_of_own_weights([1, 2, 11, 20, 30, 39, 48, 49]))


def scaled(web, factor):
    return (list(web[0]), [[factor * weight for weight in row] for row in web[1]])


def with_hue(web, place, hue):
    changed = copy.deepcopy(web)
    changed[0][place] = hue
    return changed


def with_weight(web, u, v, weight):
    changed = copy.deepcopy(web)
    changed[1][u][v] = changed[1][v][u] = weight
    return changed


def depth_of_tree(tree):
    return 1 + max([depth_of_tree(bough) for bough in tree[1]], default=0)


def is_tree(value):
    """Whether a value has the form of a tree, by point 7."""
    if type(value) is not tuple or len(value) != 2 or type(value[1]) is not list:
        return False
    right_wish = value[0] is None or is_whole(value[0]) and value[0] >= 0
    return right_wish and all(is_tree(bough) for bough in value[1])


def deep_tree(depth, wishes, beside=()):
    """A tree of so many knots one behind the other, each but the last with boughs beside."""
    tree = (wishes[0], [])
    for turn in range(1, depth):
        tree = (wishes[turn % len(wishes)], [tree] + copy.deepcopy(list(beside)))
    return tree


def sums_by_place(web, tree):
    """For each place the sum over the maps that lead the first knot to it."""
    hues, rows = web
    places = range(len(hues))
    sums = [1 if tree[0] is None or hue == tree[0] else 0 for hue in hues]
    for bough in tree[1]:
        there = sums_by_place(web, bough)
        sums = [sums[u] * sum(rows[u][v] * there[v] for v in places) for u in places]
    return sums


def row_there(web, term):
    """Point 6 word by word, with Python's own fractions, and the last words of point 16."""
    hues, rows = web
    places = range(len(hues))
    kind = term[0]
    if kind == "one":
        return [Fraction(1) for u in places]
    if kind == "hue":
        return [Fraction(1 if hues[u] == term[1] else 0) for u in places]
    if kind == "near":
        inner = row_there(web, term[1])
        return [sum((rows[u][v] * inner[v] for v in places), Fraction(0)) for u in places]
    if kind == "many":
        return [Fraction(*term[1]) * value for value in row_there(web, term[2])]
    if kind == "rows":
        table = table_there(web, term[1])
        return [sum((table[u][v] for v in places), Fraction(0)) for u in places]
    first, second = row_there(web, term[1]), row_there(web, term[2])
    if kind == "both":
        return [first[u] * second[u] for u in places]
    assert kind == "plus"
    return [first[u] + second[u] for u in places]


def table_by_kind(web, term, inner):
    """Point 16 word by word, with Python's own fractions, of the tables of the table terms in a term."""
    places = range(len(web[0]))

    def by_pairs(value):
        return [[Fraction(value(u, v)) for v in places] for u in places]
    kind = term[0]
    if kind == "same":
        return by_pairs(lambda u, v: 1 if u == v else 0)
    if kind == "tie":
        return by_pairs(lambda u, v: web[1][u][v])
    if kind == "all":
        return by_pairs(lambda u, v: 1)
    first = inner[0]
    if kind == "turned":
        return by_pairs(lambda u, v: first[v][u])
    if kind == "many":
        return by_pairs(lambda u, v: Fraction(*term[1]) * first[u][v])
    second = inner[1]
    if kind == "then":
        return by_pairs(lambda u, v: sum(first[u][w] * second[w][v] for w in places))
    if kind == "meet":
        return by_pairs(lambda u, v: first[u][v] * second[u][v])
    assert kind == "plus"
    return by_pairs(lambda u, v: first[u][v] + second[u][v])


def table_on(row):
    return [[value if u == v else Fraction(0) for v in range(len(row))] for u, value in enumerate(row)]


def table_there(web, term):
    """A table term's table by point 16."""
    if term[0] == "on":
        return table_on(row_there(web, term[1]))
    inner = [table_there(web, part) for part in term[1:] if isinstance(part[0], str)]
    return table_by_kind(web, term, inner)


def named_in(step):
    return [part for part in step[1:] if is_whole(part) and step[0] != "hue"]


def tables_there(web, steps):
    """The tables of all steps by point 17."""
    tables = []
    for step in steps:
        if step[0] == "hue":
            tables.append(table_on(row_there(web, step)))
        else:
            tables.append(table_by_kind(web, step, [tables[number] for number in named_in(step)]))
    return tables


def steps_total_there(web, steps):
    return as_told(sum((value for row in tables_there(web, steps)[-1] for value in row), Fraction(0)))


def is_step(step, place):
    """Whether a value has the form of the step of that number, by point 17."""
    if type(step) is not tuple or not step:
        return False
    kind, rest = step[0], step[1:]
    if kind == "hue":
        return len(rest) == 1 and is_whole(rest[0]) and rest[0] >= 0
    if kind == "many":
        if len(rest) != 2 or type(rest[0]) is not tuple or len(rest[0]) != 2 or not all(map(is_whole, rest[0])):
            return False
        if rest[0][1] < 1 or gcd(*rest[0]) != 1:
            return False
        rest = rest[1:]
    many = {"same": 0, "tie": 0, "all": 0, "turned": 1, "many": 1, "then": 2, "meet": 2, "plus": 2}
    return len(rest) == many.get(kind) and all(is_whole(number) and 0 <= number < place for number in rest)


def is_reckoning(value):
    right = type(value) is list and len(value) > 0
    return right and all(is_step(step, place) for place, step in enumerate(value))


LEAF_STEPS = (("same",), ("tie",), ("all",), ("hue", 0), ("hue", 1), ("hue", SIXTY))


def any_steps(chance, count, fractions, limit=8):
    """A reckoning of so many steps, none of which has more than so many steps without names multiplied in it."""
    steps, factors = [], []
    while len(steps) < count:
        kind = chance.choice(("leaf", "turned", "then", "then", "meet", "plus", "many"))
        names = {"leaf": 0, "turned": 1, "many": 1}.get(kind, 2)
        named = tuple(chance.randrange(len(steps)) for name in range(names)) if steps else ()
        of_each = [factors[number] for number in named]
        inside = sum(of_each) if kind in ("then", "meet") else max(of_each, default=1)
        if kind == "leaf":
            steps.append(chance.choice(LEAF_STEPS))
        elif steps and inside <= limit:
            steps.append((kind, chance.choice(fractions)) + named if kind == "many" else (kind,) + named)
        else:
            continue
        factors.append(inside)
    return steps


def depth_of_term(term):
    """Its depth by point 2; fractions are no terms."""
    inner = [part for part in term if isinstance(part, tuple) and isinstance(part[0], str)]
    return 1 + max([depth_of_term(part) for part in inner], default=0)


ROW_LEAVES = (("one",), ("hue", 0), ("hue", 1), ("hue", SIXTY))
TABLE_LEAVES = (("same",), ("tie",), ("all",))


def any_row_term(chance, depth, fractions, tables=False):
    """A row term of just this depth, if asked for with rows of table terms in it."""
    if depth == 1:
        return chance.choice(ROW_LEAVES)
    kind = chance.choice(("near", "both", "plus", "many") + ("rows", "rows") * tables)
    if kind == "rows":
        return (kind, any_table_term(chance, depth - 1, fractions))
    return any_term_of(chance, kind, depth, fractions, lambda deep: any_row_term(chance, deep, fractions, tables))


def any_table_term(chance, depth, fractions):
    """A table term of just this depth."""
    if depth == 1:
        return chance.choice(TABLE_LEAVES)
    kind = chance.choice(("on", "turned", "then", "meet", "plus", "many"))
    if kind == "on":
        return (kind, any_row_term(chance, depth - 1, fractions, True))
    return any_term_of(chance, kind, depth, fractions, lambda deep: any_table_term(chance, deep, fractions))


def any_term_of(chance, kind, depth, fractions, any_inner):
    inner = any_inner(depth - 1)
    if kind in ("near", "turned"):
        return (kind, inner)
    if kind == "many":
        return (kind, chance.choice(fractions), inner)
    other = any_inner(chance.randint(1, min(3, depth - 1)))
    return (kind, inner, other) if chance.random() < 0.5 else (kind, other, inner)


def table_by_order(order):
    """The table of shares from a web to the web renamed by the order."""
    return [[(1, 1) if place == u else (0, 1) for place in order] for u in range(len(order))]


def mixed_tables(parts):
    """The sum of tables, each times its fraction."""
    size = len(parts[0][1])
    return [[as_told(sum((f * Fraction(*table[u][v]) for f, table in parts), Fraction(0))) for v in range(size)]
            for u in range(size)]


def turn_by(size, steps):
    """The order that turns a ring of so many places by so many steps."""
    return [(place + steps) % size for place in range(size)]


def table_with(table, u, v, fraction):
    changed = copy.deepcopy(table)
    changed[u][v] = fraction
    return changed


# Tables that are wrong in one thing alone, by what is wrong, with the two webs.
BARE = ([0, 0], [[0, 0], [0, 0]])
BARE_THREE = ([0, 0, 0], [[0] * 3 for u in range(3)])
TWO_HUES = ([0, 1], [[0, 0], [0, 0]])
HALF = (1, 2)
WRONG_TABLES = {
    "unlike many places": (BARE, BARE_THREE, [[(2, 3)] * 2 + [(0, 1)] for u in range(2)]),
    "unlike many places, square here": (BARE, BARE_THREE, [[HALF, HALF], [HALF, HALF]]),
    "unlike many places, square there": (BARE, BARE_THREE, table_by_order([0, 1, 2])),
    "no places here": (NO_PLACES, ([0], [[0]]), []),
    "no places there": (([0], [[0]]), NO_PLACES, [[]]),
    "a row left out": (BARE, BARE, [[(1, 1), (1, 1)]]),
    "all rows left out": (BARE, BARE, []),
    "a row too many": (BARE, BARE, [[(1, 1), (0, 1)], [(0, 1), (1, 1)], [(0, 1), (0, 1)]]),
    "an empty row too many": (BARE, BARE, [[(1, 1), (0, 1)], [(0, 1), (1, 1)], []]),
    "a share left out": (BARE, BARE, [[(1, 1)], [(0, 1), (1, 1)]]),
    "a share left out at the end": (BARE, BARE, [[(0, 1), (1, 1)], [(1, 1)]]),
    "a share too many": (BARE, BARE, [[(1, 1), (0, 1), (0, 1)], [(0, 1), (1, 1)]]),
    "a share too many at the end": (BARE, BARE, [[(1, 1), (0, 1)], [(0, 1), (1, 1), (0, 1)]]),
    "columns too long": (BARE, BARE, [[(1, 1), (0, 1), (0, 1)], [(0, 1), (1, 1), (0, 1)]]),
    "columns that do not come to 1": (BARE, BARE, [[(1, 1), (0, 1)], [(1, 1), (0, 1)]]),
    "rows that do not come to 1": (BARE, BARE, [[(1, 1), (1, 1)], [(0, 1), (0, 1)]]),
    "all shares nought": (BARE, BARE, [[(0, 1), (0, 1)], [(0, 1), (0, 1)]]),
    "all come to 2": (BARE, BARE, [[(1, 1), (1, 1)], [(1, 1), (1, 1)]]),
    "a little too little": (BARE, BARE, [[(SIXTY - 1, SIXTY), (0, 1)], [(0, 1), (SIXTY - 1, SIXTY)]]),
    "shares below nought": (BARE, BARE, [[(2, 1), (-1, 1)], [(-1, 1), (2, 1)]]),
    "shares a little below nought": (BARE, BARE, [[(SIXTY + 1, SIXTY), (-1, SIXTY)],
                                                  [(-1, SIXTY), (SIXTY + 1, SIXTY)]]),
    "shares between two hues": (TWO_HUES, TWO_HUES, [[(0, 1), (1, 1)], [(1, 1), (0, 1)]]),
    "a hue that is not there": (BARE, TWO_HUES, [[(1, 1), (0, 1)], [(0, 1), (1, 1)]]),
    "even shares of two hues": (TWO_HUES, TWO_HUES, [[HALF, HALF], [HALF, HALF]]),
    "weights that do not go through": (web_of_own_weights([1, 2]), web_of_own_weights([1, 2]), table_by_order([1, 0])),
    "another weight between": (BARE, ([0, 0], [[0, 1], [1, 0]]), table_by_order([0, 1])),
    "a place's own weight another one": (BARE, web_of_own_weights([0, -1]), table_by_order([0, 1])),
    "weights a little unlike": (web_of_own_weights([SIXTY] * 2), web_of_own_weights([SIXTY, SIXTY - 1]),
                                [[HALF, HALF], [HALF, HALF]]),
}


def all_partings(size):
    """Every list of so many numbers in which each stands ahead or is the least that doesn't."""
    if size == 0:
        yield []
        return
    for lots in all_partings(size - 1):
        for lot in range(len(set(lots)) + 1):
            yield lots + [lot]


def numbered_anew(lots):
    """The same lots, numbered in the order in which they first stand."""
    return [sorted(set(lots), key=lots.index).index(lot) for lot in lots]


CUBE = web_of_ties(8, "01 02 04 13 15 23 26 37 45 46 57 67")
# Webs that are alike by trees and not by pairs.
TREE_ALIKE = ((ring(6), ring(3, 3)), (ring(7), ring(3, 4)), (ring(8), ring(3, 5)), (ring(8), ring(4, 4)),
              (ring(3, 5), ring(4, 4)), (scaled(ring(6), SIXTY), scaled(ring(3, 3), SIXTY)),
              (with_hue(with_hue(ring(6), 0, 1), 3, 1), with_hue(with_hue(ring(3, 3), 0, 1), 3, 1)),
              (CUBE, web_of_ties(8, "01 12 23 34 45 56 67 07 04 15 26 37")),
              (web_of_own_weights([1, 1]), ([0, 0], [[0, 1], [1, 0]])))


def web_of_squares(is_tied):
    """A web of one hue whose places are four by four squares, by how far two lie from one another, gone round."""
    squares = list(product(range(4), repeat=2))
    return ([0] * 16, [[1 if is_tied((a - c) % 4, (b - d) % 4) else 0 for c, d in squares] for a, b in squares])


# Webs of sixteen places that are alike by pairs and have no turning.
PAIR_ALIKE = (web_of_squares(lambda across, down: (across == 0) != (down == 0)),
              web_of_squares(lambda across, down: (across, down) in ((0, 1), (0, 3), (1, 0), (3, 0), (1, 1), (3, 3))))
# Webs that are alike by neither.
UNLIKE_PAIRS = ((NO_PLACES, ONE_PLACE), (ONE_PLACE, BARE), (BARE, BARE_THREE), (ONE_PLACE, ([1], [[0]])),
                (ONE_PLACE, ([0], [[1]])), (PATH, ring(3)), (ring(8), ring(7)), (web_of(8), ring(8)),
                (PATH, with_hue(PATH, 1, 4)), (PATH, with_weight(PATH, 0, 2, 5)),
                (web_of_own_weights([SIXTY]), web_of_own_weights([SIXTY - 1])),
                (web_of(8), with_weight(web_of(8), 3, 6, 99)), (web_of(8), with_hue(web_of(8), 5, 0)),
                LIKE_POWERS) + LATE_PAIRS


def each_its_own(web, first=0):
    """A table of kinds in which each pair is a kind of its own, numbered from the first on."""
    size = len(web[0])
    return [[first + size * u + v for v in range(size)] for u in range(size)]


def in_tables(kinds, sizes):
    """Kinds read row by row, as the tables of webs of so many places."""
    left = list(kinds)
    return [[[left.pop(0) for v in range(size)] for u in range(size)] for size in sizes]


def kinds_read(tables):
    return [kind for table in tables for row in table for kind in row]


def renumbered(table, numbers):
    return [[numbers[kind] for kind in row] for row in table]


def pairs_of(webs):
    """All pairs of places of one web, with the web's number ahead."""
    return [(k, u, v) for k, web in enumerate(webs) for u in range(len(web[0])) for v in range(len(web[0]))]


def wrongs_between(webs, tables, pair, other):
    """What point 18 asks of two pairs of one kind and does not find."""
    (k, u, v), (l, x, y) = pair, other
    (hues, rows), (hues_there, rows_there) = webs[k], webs[l]

    def kinds_on_the_way(table, first, last):
        return Counter((table[first][w], table[w][last]) for w in range(len(table)))
    if (u == v) != (x == y):
        yield "same"
    if rows[u][v] != rows_there[x][y]:
        yield "weights"
    if hues[u] != hues_there[x]:
        yield "first hues"
    if hues[v] != hues_there[y]:
        yield "second hues"
    if tables[k][v][u] != tables[l][y][x]:
        yield "turned"
    if kinds_on_the_way(tables[k], u, v) != kinds_on_the_way(tables[l], x, y):
        yield "between"


def kin_wrongs(webs, tables):
    """All that keeps tables from being kin, one after the other: of one web by point 18, of two by point 19."""
    pairs = pairs_of(webs)
    for place, pair in enumerate(pairs):
        for other in pairs[:place]:
            if tables[pair[0]][pair[1]][pair[2]] == tables[other[0]][other[1]][other[2]]:
                yield from wrongs_between(webs, tables, pair, other)


def kin_there(webs, tables):
    return not any(kin_wrongs(webs, tables))


def coarsest_by_splitting(webs):
    """The coarsest tables of kinds: pairs are parted as long as something of point 18 parts them."""
    pairs, sizes = pairs_of(webs), [len(web[0]) for web in webs]
    kinds = [0] * len(pairs)
    while True:
        tables, firsts, finer = in_tables(kinds, sizes), [], []
        for place, pair in enumerate(pairs):
            alike = [k for k, first in enumerate(firsts) if kinds[first] == kinds[place]
                     and not any(wrongs_between(webs, tables, pair, pairs[first]))]
            firsts += [] if alike else [place]
            finer.append(alike[0] if alike else len(firsts) - 1)
        if finer == kinds:
            return tables
        kinds = finer


# Tables of kinds that are not kin, by what is wrong, with the web and all that is wrong with them. Hues of
# one place of a pair can't be wrong alone: of the pair turned, or of a place with itself, the others are too.
BARE_SIX = ([0] * 6, [[0] * 6 for u in range(6)])
ONE_OF_THREE = ([0, 0, 1], [[0] * 3 for u in range(3)])
WRONG_KINDS = {
    "all pairs of one kind": (BARE, [[0, 0], [0, 0]], {"same"}),
    "a place with itself and with another": (BARE_THREE, [[0, 1, 1], [2, 3, 3], [2, 3, 3]], {"same"}),
    "own weights": (web_of_own_weights([1, 2]), [[0, 1], [1, 0]], {"weights"}),
    "own weights a little unlike": (web_of_own_weights([SIXTY, SIXTY - 1]), [[0, 1], [1, 0]], {"weights"}),
    "own weights that are opposite": (web_of_own_weights([1, -1]), [[0, 1], [1, 0]], {"weights"}),
    "weights between": (([0] * 3, [[0, 1, 1], [1, 0, 2], [1, 2, 0]]), [[0, 1, 1], [1, 0, 1], [1, 1, 0]], {"weights"}),
    "hues of places with themselves": (TWO_HUES, [[0, 1], [1, 0]], {"first hues", "second hues"}),
    "hues of places with others": (ONE_OF_THREE, [[0, 1, 2], [2, 0, 1], [1, 2, 0]], {"first hues", "second hues"}),
    "first hues": (ONE_OF_THREE, [[0, 1, 2], [1, 0, 2], [1, 1, 3]], {"first hues", "turned", "between"}),
    "second hues": (ONE_OF_THREE, [[0, 1, 1], [1, 0, 1], [2, 2, 3]], {"second hues", "turned", "between"}),
    "turned": (BARE_SIX, [[0, 1, 1, 1, 2, 2], [1, 0, 1, 1, 2, 2], [2, 1, 0, 2, 1, 1],
                          [1, 2, 2, 0, 1, 1], [2, 1, 1, 2, 0, 1], [1, 2, 2, 1, 1, 0]], {"turned"}),
    "turned, of four kinds": (BARE_SIX, [[0, 1, 1, 2, 3, 3], [1, 0, 2, 1, 3, 3], [3, 2, 0, 3, 1, 1],
                                         [2, 3, 3, 0, 1, 1], [3, 1, 1, 3, 0, 2], [1, 3, 3, 1, 2, 0]], {"turned"}),
    "turned and between": (BARE_THREE, [[0, 1, 1], [1, 0, 1], [1, 2, 0]], {"turned", "between"}),
    "between, of two places": (BARE, [[0, 1], [1, 2]], {"between"}),
    "between, of three places": (BARE_THREE, [[0, 1, 1], [1, 0, 2], [1, 2, 0]], {"between"}),
    "between, of a path": (web_of_ties(4, "01 12 23"), [[0, 1, 2, 2], [1, 0, 1, 2], [2, 1, 0, 1], [2, 2, 1, 0]],
                           {"between"}),
    "between, of two rings by weights": (ring(3, 5), [[0 if u == v else 2 - w for v, w in enumerate(row)]
                                                      for u, row in enumerate(ring(3, 5)[1])], {"between"}),
}


def turnings_there(web, other):
    """All turnings by point 22, word by word, of all lists of the other's places, each once, in their order."""
    (hues, rows), (hues_there, rows_there) = web, other
    places = range(len(hues))
    if len(hues) != len(hues_there):
        return []
    return [list(turning) for turning in permutations(places)
            if all(hues[u] == hues_there[turning[u]] for u in places)
            and all(rows[u][v] == rows_there[turning[u]][turning[v]] for u in places for v in places)]


# A number and a fraction in a text, by point 23.
FROM_NOUGHT = r"(?:0|[1-9][0-9]{0,59})"
NUMBER = r"(?:0|-?[1-9][0-9]{0,59})"
# Signs that are put into texts in the place of others: some that stand in texts, and some that stand in none.
SIGNS = list(" ;:()*+-/0123456789aefhinorstuw_.,%~AO\"\t\n") + ["\u00a0", "\u00b2", "\u0663", "\u00e9"]
NO_NUMBERS = ("00", "01", "-0", "-01", "+1", "+0", "--1", "- 1", "1-", "1.0", "1e3", "1_0", "0x1", "x", "-", "1 000",
              "1/1", "\u0663", "\u00b2", str(10 ** 60), str(-10 ** 60), "9" * 61, "1" * 3000, "0" * 60)


def changed_texts(text):
    """Every text that comes of leaving out a sign, or of putting a sign elsewhere, twice or into another's place."""
    for place, sign in enumerate(text):
        yield text[:place] + text[place + 1:]
        yield text[:place] + sign + text[place:]
        yield text[:place] + text[place + 1:place + 2] + sign + text[place + 2:]
    for place in range(len(text) + 1):
        for sign in SIGNS:
            yield text[:place] + sign + text[place:]
            yield text[:place] + sign + text[place + 1:]


def check_refused(case, ask, handed, refusal):
    """Refused by this name, which stands straight under KinError, and by no other."""
    with case.assertRaises(KinError) as taken:
        ask(handed)
    case.assertIs(type(taken.exception), refusal, handed)


def lists_in(value):
    """Every list in a value, at whatever depth, the value itself among them."""
    if not isinstance(value, (list, tuple)):
        return []
    found = [value] if isinstance(value, list) else []
    for part in value:
        found.extend(lists_in(part))
    return found


def spoil(value):
    """Change every list in a value."""
    for one in lists_in(value):
        one.insert(0, "spoilt")
        one.append("spoilt")


def check_own(case, ask, handed):
    """What is handed in stays, what is told is the asker's own, and is told again when asked again."""
    before = copy.deepcopy(handed)
    told = ask(*handed)
    case.assertEqual(handed, before)
    kept = copy.deepcopy(told)
    again = ask(*handed)
    case.assertEqual(again, kept)
    told_lists = lists_in(told) + lists_in(again)
    case.assertEqual(len({id(one) for one in told_lists}), len(told_lists), "a list is told twice")
    handed_ids = {id(one) for part in handed for one in lists_in(part)}
    case.assertFalse(handed_ids & {id(one) for one in told_lists}, "a handed list is told")
    spoil(told)
    case.assertEqual(handed, before)
    case.assertEqual(again, kept)
    case.assertEqual(ask(*handed), kept)
    last = ask(*handed)
    for part in handed:
        spoil(part)
    case.assertEqual(last, kept)
    case.assertEqual(ask(*before), kept)


def whole(rows):
    """A table of whole numbers, as fractions."""
    return [[(number, 1) for number in row] for row in rows]


def is_whole(value):
    return isinstance(value, int) and not isinstance(value, bool)


def as_told(value):
    return (value.numerator, value.denominator)


def check_fractions(case, told, right):
    """A told list is the right one, of fractions in lowest terms."""
    case.assertIs(type(told), list)
    case.assertEqual(told, right)
    for f in told:
        case.assertIs(type(f), tuple)
        case.assertTrue(is_whole(f[0]) and is_whole(f[1]))
        case.assertGreater(f[1], 0)
        case.assertEqual(gcd(*f), 1)


def check_table(case, told, right):
    """A told table is the right one, of lists of fractions in lowest terms."""
    case.assertIs(type(told), list)
    case.assertEqual(len(told), len(right))
    for row, right_row in zip(told, right):
        check_fractions(case, row, right_row)
