"""Partings: a lot for each place of a web, and of two webs side by side."""

from evenkin.webs import side_by_side


def numbered(marks):
    numbers = {}
    lots = []
    for mark in marks:
        lots.append(numbers.setdefault(mark, len(numbers)))
    return lots


def sums_to_lots(weights, lots):
    sums = {}
    for weight, lot in zip(weights, lots):
        sums[lot] = sums.get(lot, 0) + weight
    return tuple(sums.values())


def split_up(web, lots):
    sums = [sums_to_lots(weights, lots) for weights in web[1]]
    return numbered(list(zip(lots, web[0], sums)))


def is_even(web, lots):
    return split_up(web, lots) == numbered(lots)


def coarsest_parting(web):
    # Splits only what every even parting splits, until nothing is left to split.
    lots = [0] * len(web[0])
    finer = split_up(web, lots)
    while finer != lots:
        lots = finer
        finer = split_up(web, lots)
    return lots


def coarsest_together(web, other):
    lots = coarsest_parting(side_by_side(web, other))
    ahead = len(web[0])
    return (lots[:ahead], lots[ahead:])


def part_alike(web, other):
    together = coarsest_together(web, other)
    return sorted(together[0]) == sorted(together[1])
