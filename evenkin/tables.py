"""Table terms: the table that one has in a web, a fraction for each two places, and its total."""

from evenkin.grids import in_square
from evenkin.terms import fractions_of_term, total_of_term


def table_of_term(web, term):
    return in_square(fractions_of_term(web, term), len(web[0]))


def table_total(web, term):
    return total_of_term(web, term)
