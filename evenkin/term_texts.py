"""The texts of trees, row terms and table terms, shown and read."""

from evenkin.errors import NoText
from evenkin.number_texts import show_fraction
from evenkin.readers import Reader
from evenkin.terms import inner_terms

DEEPEST = 20

# What stands between two terms.
SIGNS = {"both": " * ", "plus": " + ", "then": " then ", "meet": " meet "}

# The kinds of terms that have none, one or two in them, for row terms and for table terms.
LEAVES = {"row": ("one",), "table": ("same", "tie", "all")}
WITH_ONE = {"row": ("near", "rows"), "table": ("on", "turned")}
WITH_TWO = {"row": ("both", "plus"), "table": ("then", "meet", "plus")}
INNER_SIDE = {"near": "row", "rows": "table", "on": "row", "turned": "table"}


def show_tree(tree):
    wish = tree[0]
    knot = "o" if wish is None else f"{wish}"
    if len(tree[1]) == 0:
        return knot
    return knot + "(" + " ".join([show_tree(bough) for bough in tree[1]]) + ")"


def parts_of_text(term):
    kind = term[0]
    inner = inner_terms(term)
    if kind == "hue":
        hue = term[1]
        return [f"hue {hue}"]
    if kind == "many":
        return [show_fraction(term[1]) + " of ", inner[0]]
    if len(inner) == 0:
        return [kind]
    if len(inner) == 1:
        return [kind + " ", inner[0]]
    return ["(", inner[0], SIGNS[kind], inner[1], ")"]


def text_of_term(term):
    # Terms of trees can be thousands deep, too deep for a function that calls itself.
    waiting = [term]
    texts = []
    while waiting:
        part = waiting.pop()
        if isinstance(part, str):
            texts.append(part)
        else:
            parts = parts_of_text(part)
            parts.reverse()
            waiting.extend(parts)
    return "".join(texts)


def show_term(term):
    return text_of_term(term)


def show_table(term):
    return text_of_term(term)


def look_at_depth(reader, depth):
    if depth > DEEPEST:
        reader.refuse("too deep")


def tree_from(reader, depth):
    look_at_depth(reader, depth)
    wish = None if reader.takes("o") else reader.number_from_nought()
    boughs = []
    if reader.takes("("):
        boughs.append(tree_from(reader, depth + 1))
        while reader.takes(" "):
            boughs.append(tree_from(reader, depth + 1))
        reader.must_take(")")
    return (wish, boughs)


def sign_from(reader, side):
    for kind in WITH_TWO[side]:
        if reader.takes(SIGNS[kind]):
            return kind
    raise NoText("no text: no sign between two terms")


def two_terms_from(reader, side, depth):
    first = term_from(reader, side, depth)
    kind = sign_from(reader, side)
    second = term_from(reader, side, depth)
    reader.must_take(")")
    return (kind, first, second)


def many_from(reader, side, depth):
    f = reader.fraction()
    reader.must_take(" of ")
    return ("many", f, term_from(reader, side, depth))


def term_from(reader, side, depth):
    look_at_depth(reader, depth)
    for kind in LEAVES[side]:
        if reader.takes(kind):
            return (kind,)
    for kind in WITH_ONE[side]:
        if reader.takes(kind + " "):
            return (kind, term_from(reader, INNER_SIDE[kind], depth + 1))
    if side == "row" and reader.takes("hue "):
        return ("hue", reader.number_from_nought())
    if reader.takes("("):
        return two_terms_from(reader, side, depth + 1)
    return many_from(reader, side, depth + 1)


def whole_term(text, side):
    reader = Reader(text)
    term = term_from(reader, side, 1)
    reader.must_end()
    return term


def read_tree(text):
    reader = Reader(text)
    tree = tree_from(reader, 1)
    reader.must_end()
    return tree


def read_term(text):
    return whole_term(text, "row")


def read_table(text):
    return whole_term(text, "table")
