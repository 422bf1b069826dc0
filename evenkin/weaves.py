"""Weaves: steps with their tables in two webs, of which only the rests are kept that a prime leaves."""

from evenkin.grids import (columns_of, first_place_not_nought, in_one_list, in_square, product_of_grids,
                           sum_of_products)
from evenkin.steps import named_by, value_of_step

PRODUCTS = ("meet", "then")


class Weave:
    def __init__(self, step, size, here, there):
        # It names other weaves by their numbers among those that are kept.
        self.step = step
        # How many steps that name no other are woven into it.
        self.size = size
        self.here = here
        self.there = there
        # What the weaves kept ahead leave of its tables: nothing is taken as long as none is.
        self.rest = in_one_list(here) + in_one_list(there)


def rests(numbers, prime):
    return [number % prime for number in numbers]


def table_of_leaf(web, step, prime):
    tops = value_of_step(web, step, [])[0]
    return in_square(rests(tops, prime), len(web[0]))


def leaf_weaves(web, other, prime):
    # The tables of all hues together make that of same, which so need not be there.
    steps = [("all",), ("tie",)] + [("hue", hue) for hue in sorted(set(web[0] + other[0]))]
    return [Weave(step, 1, table_of_leaf(web, step, prime), table_of_leaf(other, step, prime)) for step in steps]


def met_rows(row, other):
    return [number * number_there for number, number_there in zip(row, other)]


def product_of_tables(kind, table, other, prime):
    if kind == "then":
        rows = product_of_grids(table, other)
    else:
        rows = [met_rows(row, other_row) for row, other_row in zip(table, other)]
    return [rests(row, prime) for row in rows]


def total_of_product(kind, table, other):
    # Reckoned without the table of the product, as far more products are asked than kept.
    if kind == "then":
        return sum_of_products([sum(column) for column in columns_of(table)], [sum(row) for row in other])
    return sum_of_products(in_one_list(table), in_one_list(other))


def pairs_by_size(kept):
    pairs = []
    for place, weave in enumerate(kept):
        for other_place, other in enumerate(kept):
            pairs.append((weave.size + other.size, place, other_place))
    return sorted(pairs)


def woven(kind, kept, pair, prime):
    weave = kept[pair[1]]
    other = kept[pair[2]]
    here = product_of_tables(kind, weave.here, other.here, prime)
    there = product_of_tables(kind, weave.there, other.there, prime)
    return Weave((kind, pair[1], pair[2]), pair[0], here, there)


def grown_weaves(kept, size, prime):
    pairs = [pair for pair in pairs_by_size(kept) if pair[0] == size]
    grown = []
    for kind in PRODUCTS:
        grown.extend([woven(kind, kept, pair, prime) for pair in pairs])
    return grown


def rest_behind(row, kept, prime):
    rest = row
    for weave in kept:
        place = first_place_not_nought(weave.rest)
        factor = weave.rest[place]
        taken = rest[place]
        rest = [(factor * number - taken * other) % prime for number, other in zip(rest, weave.rest)]
    return rest


def keep_free_ones(kept, weaves, prime):
    for weave in weaves:
        weave.rest = rest_behind(weave.rest, kept, prime)
        if first_place_not_nought(weave.rest) is not None:
            kept.append(weave)


def is_unlike_product(kind, weave, other, prime):
    here = total_of_product(kind, weave.here, other.here)
    there = total_of_product(kind, weave.there, other.there)
    return (here - there) % prime != 0


def unlike_product(kept, prime):
    for pair in pairs_by_size(kept):
        for kind in PRODUCTS:
            if is_unlike_product(kind, kept[pair[1]], kept[pair[2]], prime):
                return (kind, pair[1], pair[2])
    return None


def needed_places(steps):
    needed = {len(steps) - 1: True}
    for place in range(len(steps) - 1, -1, -1):
        if place in needed:
            for number in named_by(steps[place]):
                needed[number] = True
    return sorted(needed)


def with_named(step, numbers):
    named = named_by(step)
    return step[:len(step) - len(named)] + tuple([numbers[number] for number in named])


def needed_steps(steps):
    numbers = {}
    needed = []
    for place in needed_places(steps):
        numbers[place] = len(needed)
        needed.append(with_named(steps[place], numbers))
    return needed


def unlike_steps(web, other, prime):
    kept = []
    keep_free_ones(kept, leaf_weaves(web, other, prime), prime)
    size = 1
    unlike = unlike_product(kept, prime)
    # Once no product is free, each table is mixed of the kept ones. So is then the table of each kind,
    # 1 for its pairs, else 0, as by the prime unlike weights and unlike numbers of places stay unlike.
    # Webs that are not kin have a kind with unlike totals: at the latest then a product has them, too.
    while unlike is None:
        size += 1
        keep_free_ones(kept, grown_weaves(kept, size, prime), prime)
        unlike = unlike_product(kept, prime)
    return needed_steps([weave.step for weave in kept] + [unlike])
