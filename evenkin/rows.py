"""Row terms: the row that one has in a web, a fraction for each place, and its total."""

from evenkin.terms import fractions_of_term, total_of_term


def row_of(web, term):
    return fractions_of_term(web, term)


def total_of(web, term):
    return total_of_term(web, term)
