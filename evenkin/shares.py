"""Tables of shares: which go through two webs, how they are joined and turned, and their lots."""

from evenkin.fractions import common_bottom, fraction_of, product_of, sum_of_all, top_over
from evenkin.grids import columns_of, in_one_list, in_square, is_square, product_of_grids
from evenkin.partings import coarsest_together, numbered


def come_to(rows, whole):
    return all([sum(row) == whole for row in rows])


def are_shared_out(shares, whole):
    below = [share for share in in_one_list(shares) if share < 0]
    return not below and come_to(shares, whole) and come_to(columns_of(shares), whole)


def keeps_hue(hue, hues_there, shares):
    return all([share == 0 or hue_there == hue for share, hue_there in zip(shares, hues_there)])


def keep_hues(hues, hues_there, shares):
    return all([keeps_hue(hue, hues_there, row) for hue, row in zip(hues, shares)])


def goes_through(web, other, table):
    size = len(web[0])
    if len(other[0]) != size or not is_square(table, size):
        return False
    fractions = in_one_list(table)
    # Over one bottom all that is asked of shares is asked of whole numbers.
    whole = common_bottom(fractions)
    shares = in_square([top_over(f, whole) for f in fractions], size)
    if not are_shared_out(shares, whole) or not keep_hues(web[0], other[0], shares):
        return False
    return product_of_grids(web[1], shares) == product_of_grids(shares, other[1])


def shares_of_lot(lot, lots, lots_there):
    share = fraction_of(1, lots.count(lot))
    return [share if lot_there == lot else (0, 1) for lot_there in lots_there]


def table_of(web, other):
    together = coarsest_together(web, other)
    lots = together[0]
    return [shares_of_lot(lot, lots, together[1]) for lot in lots]


def joined_share(row, column):
    return sum_of_all([product_of(f, g) for f, g in zip(row, column)])


def joined_row(row, columns):
    return [joined_share(row, column) for column in columns]


def join_tables(table, other):
    columns = columns_of(other)
    return [joined_row(row, columns) for row in table]


def turned_over(table):
    return columns_of(table)


def merged(marks, mark, other):
    return [mark if one == other else one for one in marks]


def lots_of(table):
    ahead = len(table)
    marks = list(range(ahead + len(columns_of(table))))
    for place, row in enumerate(table):
        for place_there, share in enumerate(row):
            if share[0] > 0:
                marks = merged(marks, marks[place], marks[ahead + place_there])
    lots = numbered(marks)
    return (lots[:ahead], lots[ahead:])
