"""Row terms: the row that one has in a web, a fraction for each place, and its total."""

from evenkin.fractions import fraction_of, greatest_divisor

# How many terms a term of each kind has in it: they are the last things of its tuple.
INNER_TERMS = {"one": 0, "hue": 0, "near": 1, "both": 2, "plus": 2, "many": 1}


def inner_terms(term):
    return term[len(term) - INNER_TERMS[term[0]]:]


def terms_innermost_first(term):
    # Terms of trees can be thousands deep, too deep for a function that calls itself.
    waiting = [term]
    found = []
    while waiting:
        part = waiting.pop()
        found.append(part)
        waiting.extend(inner_terms(part))
    found.reverse()
    return found


# While a row is reckoned it is a tuple (tops, bottom) with one bottom for all places,
# so that sums over many places need no divisor sought for each.


def lowered(tops, bottom):
    divisor = bottom
    for top in tops:
        if divisor == 1:
            return (tops, bottom)
        divisor = greatest_divisor(divisor, top)
    return ([top // divisor for top in tops], bottom // divisor)


def hue_row(hues, wanted):
    return ([1 if hue == wanted else 0 for hue in hues], 1)


def sum_of_products(numbers, others):
    return sum([number * other for number, other in zip(numbers, others)])


def near_row(weights, row):
    return ([sum_of_products(weights_of_place, row[0]) for weights_of_place in weights], row[1])


def both_row(row, other):
    tops = [top * other_top for top, other_top in zip(row[0], other[0])]
    return lowered(tops, row[1] * other[1])


def plus_row(row, other):
    tops = [top * other[1] + other_top * row[1] for top, other_top in zip(row[0], other[0])]
    return lowered(tops, row[1] * other[1])


def many_row(f, row):
    return lowered([f[0] * top for top in row[0]], f[1] * row[1])


def row_by_kind(web, term, inner_rows):
    kind = term[0]
    if kind == "one":
        return ([1] * len(web[0]), 1)
    if kind == "hue":
        return hue_row(web[0], term[1])
    if kind == "near":
        return near_row(web[1], inner_rows[0])
    if kind == "both":
        return both_row(inner_rows[0], inner_rows[1])
    if kind == "plus":
        return plus_row(inner_rows[0], inner_rows[1])
    return many_row(term[1], inner_rows[0])


def row_over_one_bottom(web, term):
    rows = []
    for part in terms_innermost_first(term):
        # The rows of a term's inner terms are the last ones that no other term has taken.
        first = len(rows) - len(inner_terms(part))
        rows = rows[:first] + [row_by_kind(web, part, rows[first:])]
    return rows[0]


def row_of(web, term):
    row = row_over_one_bottom(web, term)
    return [fraction_of(top, row[1]) for top in row[0]]


def total_of(web, term):
    row = row_over_one_bottom(web, term)
    return fraction_of(sum(row[0]), row[1])
