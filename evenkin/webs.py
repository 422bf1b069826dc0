"""Webs: tuples (hues, rows), how they are looked at, renamed and laid beside one another."""

from evenkin.errors import NoOrder, NoWeb


def has_row(rows, place, size):
    return place < len(rows) and len(rows[place]) == size


def is_turned_alike(rows, place, size):
    for other in range(size):
        # A place without a right row is wrong itself, and tells nothing of the others.
        if has_row(rows, other, size) and rows[place][other] != rows[other][place]:
            return False
    return True


def is_right_place(hues, rows, place):
    size = len(hues)
    return hues[place] >= 0 and has_row(rows, place, size) and is_turned_alike(rows, place, size)


def look_at_web(web):
    hues = web[0]
    rows = web[1]
    for place in range(len(hues)):
        if not is_right_place(hues, rows, place):
            raise NoWeb(place)
    if len(rows) > len(hues):
        raise NoWeb(len(hues))


def picked(things, order):
    return [things[place] for place in order]


def web_renamed(web, order):
    hues = web[0]
    rows = web[1]
    # Held against all places, so that no number below 0 counts from the end.
    if sorted(order) != list(range(len(hues))):
        raise NoOrder("an order has each place of the web once")
    return (picked(hues, order), [picked(rows[place], order) for place in order])


def side_by_side(web, other):
    ahead = len(web[0])
    behind = len(other[0])
    rows = [row + [0] * behind for row in web[1]]
    rows_there = [[0] * ahead + row for row in other[1]]
    return (web[0] + other[0], rows + rows_there)
