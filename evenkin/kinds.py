"""Kinds of pairs: tables of kinds of a web and of two webs together, which are kin, and the coarsest ones."""

from evenkin.grids import columns_of, in_one_list, in_square, is_square
from evenkin.partings import numbered


def ways_between(row, column):
    # In order of the kinds, not of the places between: so like numbers for each two kinds are like ways.
    return tuple(sorted(zip(row, column)))


def marks_of_pairs(web, kinds):
    hues = web[0]
    columns = columns_of(kinds)
    marks = []
    for u, row in enumerate(kinds):
        for v, column in enumerate(columns):
            turned_kind = kinds[v][u]
            marks.append((row[v], u == v, web[1][u][v], hues[u], hues[v], turned_kind, ways_between(row, column)))
    return marks


# One web, and two webs together, are both a list of webs here, with a list of tables.


def kinds_in_all(tables):
    return in_one_list([in_one_list(kinds) for kinds in tables])


def split_kinds(webs, tables):
    marks = [marks_of_pairs(web, kinds) for web, kinds in zip(webs, tables)]
    return numbered(in_one_list(marks))


def in_tables(kinds, webs):
    tables = []
    first = 0
    for web in webs:
        size = len(web[0])
        tables.append(in_square(kinds[first:first + size * size], size))
        first += size * size
    return tables


def are_all_kin(webs, tables):
    for web, kinds in zip(webs, tables):
        if not is_square(kinds, len(web[0])):
            return False
    return split_kinds(webs, tables) == numbered(kinds_in_all(tables))


def coarsest_tables(webs):
    # Splits only what all kin tables split, until nothing is left to split.
    kinds = [0] * sum([len(web[0]) * len(web[0]) for web in webs])
    finer = split_kinds(webs, in_tables(kinds, webs))
    while finer != kinds:
        kinds = finer
        finer = split_kinds(webs, in_tables(kinds, webs))
    return in_tables(kinds, webs)


def is_kin(web, kinds):
    return are_all_kin([web], [kinds])


def coarsest_kinds(web):
    return coarsest_tables([web])[0]


def are_kin(web, other, kinds, kinds_there):
    return are_all_kin([web, other], [kinds, kinds_there])


def kinds_together(web, other):
    return tuple(coarsest_tables([web, other]))


def as_many_of_each(kinds, kinds_there):
    return sorted(in_one_list(kinds)) == sorted(in_one_list(kinds_there))


def same_kin(web, other):
    together = kinds_together(web, other)
    return as_many_of_each(together[0], together[1])
