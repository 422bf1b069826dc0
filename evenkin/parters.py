"""Trees that part: of two webs that do not part alike, a tree whose totals in both are unlike."""

from evenkin.grids import first_place_not_nought, sums_with_each
from evenkin.partings import part_alike
from evenkin.webs import side_by_side


class Sprout:
    def __init__(self, tree, knots, depth, row):
        self.tree = tree
        self.knots = knots
        self.depth = depth
        # What the tree's term has at the places of both webs beside one another, whole numbers.
        self.row = row
        # What the rows kept ahead leave of it: nothing is taken as long as none is.
        self.rest = row


def leaf_sprouts(hues):
    leaves = [Sprout((None, []), 1, 1, [1] * len(hues))]
    for wish in sorted(set(hues)):
        leaves.append(Sprout((wish, []), 1, 1, [1 if hue == wish else 0 for hue in hues]))
    return leaves


def with_bough(sprout, bough, weights):
    tree = (sprout.tree[0], sprout.tree[1] + [bough.tree])
    near = sums_with_each(bough.row, weights)
    row = [number * other for number, other in zip(sprout.row, near)]
    return Sprout(tree, sprout.knots + bough.knots, max(sprout.depth, bough.depth + 1), row)


def grown_sprouts(kept, knots, weights):
    grown = []
    for sprout in kept:
        for bough in kept:
            if sprout.knots + bough.knots == knots:
                grown.append(with_bough(sprout, bough, weights))
    return sorted(grown, key=lambda sprout: sprout.depth)


def rest_behind(row, kept):
    rest = row
    divisor = 1
    for sprout in kept:
        place = first_place_not_nought(sprout.rest)
        factor = sprout.rest[place]
        taken = rest[place]
        # Each division comes out even: what stands behind it are minors of the rows so far.
        rest = [(factor * number - taken * other) // divisor for number, other in zip(rest, sprout.rest)]
        divisor = factor
    return rest


def keep_free_ones(kept, sprouts):
    for sprout in sprouts:
        sprout.rest = rest_behind(sprout.row, kept)
        if first_place_not_nought(sprout.rest) is not None:
            kept.append(sprout)


def first_unlike(sprouts, ahead):
    for sprout in sprouts:
        if sum(sprout.row[:ahead]) != sum(sprout.row[ahead:]):
            return sprout
    return None


def copied(tree):
    return (tree[0], [copied(bough) for bough in tree[1]])


def parting_tree(web, other):
    if part_alike(web, other):
        return None
    both = side_by_side(web, other)
    # Kept are trees whose rows are free of one another, at most one for each place: each at most
    # one deeper than those ahead. The row of any other tree is mixed of the rows of kept ones
    # with no more knots, so that it is unlike only where one of these is.
    kept = []
    knots = 1
    sprouts = leaf_sprouts(both[0])
    unlike = first_unlike(sprouts, len(web[0]))
    while unlike is None:
        keep_free_ones(kept, sprouts)
        knots += 1
        sprouts = grown_sprouts(kept, knots, both[1])
        unlike = first_unlike(sprouts, len(web[0]))
    return copied(unlike.tree)
