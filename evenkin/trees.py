"""Trees: tuples (wish, boughs), their row terms, and their maps into webs."""

from evenkin.rows import total_of


def term_of(tree):
    wish = tree[0]
    term = ("one",) if wish is None else ("hue", wish)
    for bough in tree[1]:
        term = ("both", term, ("near", term_of(bough)))
    return term


def knots_of(tree):
    return 1 + sum([knots_of(bough) for bough in tree[1]])


def maps_total(web, tree):
    # Weights are whole, so the total's bottom is 1.
    return total_of(web, term_of(tree))[0]
