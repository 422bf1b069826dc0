"""Grids: lists of rows, all of one length, of whatever things or of whole numbers."""


def column_of(rows, place):
    return [row[place] for row in rows]


def columns_of(rows):
    width = len(rows[0]) if rows else 0
    return [column_of(rows, place) for place in range(width)]


def sum_of_products(numbers, others):
    return sum([number * other for number, other in zip(numbers, others)])


def sums_with_each(numbers, rows):
    return [sum_of_products(numbers, row) for row in rows]


def product_of_grids(rows, others):
    columns = columns_of(others)
    return [sums_with_each(row, columns) for row in rows]


def in_one_list(rows):
    things = []
    for row in rows:
        things.extend(row)
    return things


def in_square(things, size):
    return [things[size * place:size * (place + 1)] for place in range(size)]


def is_square(rows, size):
    return len(rows) == size and all([len(row) == size for row in rows])


def first_place_not_nought(row):
    places = [place for place, number in enumerate(row) if number != 0]
    return places[0] if places else None
