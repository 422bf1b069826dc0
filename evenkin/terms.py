"""Terms: what row terms and table terms, which may have one another in them, have in a web."""

from evenkin.fractions import fraction_of, greatest_divisor
from evenkin.grids import columns_of, in_one_list, in_square, product_of_grids, sums_with_each

# How many terms a term of each kind has in it: they are the last things of its tuple.
INNER_TERMS = {
    "one": 0, "hue": 0, "near": 1, "both": 2, "rows": 1,
    "same": 0, "tie": 0, "all": 0, "on": 1, "turned": 1, "then": 2, "meet": 2,
    "plus": 2, "many": 1,
}


def inner_terms(term):
    return term[len(term) - INNER_TERMS[term[0]]:]


def terms_innermost_first(term):
    # Terms of trees can be thousands deep, too deep for a function that calls itself.
    waiting = [term]
    found = []
    while waiting:
        part = waiting.pop()
        found.append(part)
        waiting.extend(inner_terms(part))
    found.reverse()
    return found


# While a row or a table is reckoned it is a tuple (tops, bottom) with one bottom for all,
# so that sums over many places need no divisor sought for each. The tops are one list, those
# of a table row by row, so that what is done place by place is the same for rows and tables.


def shared_by_all(divisor, tops):
    for top in tops:
        if divisor == 1:
            return 1
        divisor = greatest_divisor(divisor, top)
    return divisor


def lowered(tops, bottom):
    divisor = shared_by_all(bottom, tops)
    if divisor == 1:
        return (tops, bottom)
    return ([top // divisor for top in tops], bottom // divisor)


def one_by_one_product(value, other):
    tops = [top * other_top for top, other_top in zip(value[0], other[0])]
    return lowered(tops, value[1] * other[1])


def one_by_one_sum(value, other):
    tops = [top * other[1] + other_top * value[1] for top, other_top in zip(value[0], other[0])]
    return lowered(tops, value[1] * other[1])


def many_times(f, value):
    # Crosswise, so that a short fraction is held against long numbers, never long ones against long ones.
    from_top = greatest_divisor(f[0], value[1])
    from_bottom = shared_by_all(f[1], value[0])
    top = f[0] // from_top
    bottom = (f[1] // from_bottom) * (value[1] // from_top)
    return ([top * (number // from_bottom) for number in value[0]], bottom)


def one_then_other(size, value, other):
    rows = product_of_grids(in_square(value[0], size), in_square(other[0], size))
    return lowered(in_one_list(rows), value[1] * other[1])


def tops_where_same(tops):
    size = len(tops)
    spread = [0] * (size * size)
    for place, top in enumerate(tops):
        spread[place * size + place] = top
    return spread


def tops_of_leaf(web, term):
    size = len(web[0])
    kind = term[0]
    if kind == "one":
        return [1] * size
    if kind == "hue":
        return [1 if hue == term[1] else 0 for hue in web[0]]
    if kind == "same":
        return tops_where_same([1] * size)
    if kind == "tie":
        return in_one_list(web[1])
    return [1] * (size * size)


def tops_from_one(web, kind, tops):
    if kind == "near":
        return sums_with_each(tops, web[1])
    if kind == "on":
        return tops_where_same(tops)
    rows = in_square(tops, len(web[0]))
    if kind == "rows":
        return [sum(row) for row in rows]
    return in_one_list(columns_of(rows))


def value_from_two(web, kind, value, other):
    if kind == "plus":
        return one_by_one_sum(value, other)
    if kind == "then":
        return one_then_other(len(web[0]), value, other)
    return one_by_one_product(value, other)


def value_by_kind(web, term, inner_values):
    kind = term[0]
    if len(inner_values) == 2:
        return value_from_two(web, kind, inner_values[0], inner_values[1])
    if len(inner_values) == 0:
        return (tops_of_leaf(web, term), 1)
    value = inner_values[0]
    if kind == "many":
        return many_times(term[1], value)
    return (tops_from_one(web, kind, value[0]), value[1])


def value_of(web, term):
    values = []
    for part in terms_innermost_first(term):
        # The values of a term's inner terms are the last ones that no other term has taken.
        first = len(values) - len(inner_terms(part))
        values = values[:first] + [value_by_kind(web, part, values[first:])]
    return values[0]


def shared_by_any(tops, bottom):
    product = 1
    for top in tops:
        if top != 0:
            product = product * top % bottom
    return greatest_divisor(bottom, product)


def fractions_of_value(value):
    bottom = value[1]
    # What any one top shares with the bottom divides what their product shares with it: so a
    # long search for a divisor is made once, not for each place.
    shared = shared_by_any(value[0], bottom)
    fractions = []
    for top in value[0]:
        divisor = bottom if top == 0 else greatest_divisor(top, shared)
        fractions.append((top // divisor, bottom // divisor))
    return fractions


def total_of_value(value):
    return fraction_of(sum(value[0]), value[1])


def fractions_of_term(web, term):
    return fractions_of_value(value_of(web, term))


def total_of_term(web, term):
    return total_of_value(value_of(web, term))
