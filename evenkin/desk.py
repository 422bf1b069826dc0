"""The desk: it keeps webs by names, is told lines and answers each."""

from evenkin.errors import NoLine, NoName, NoText
from evenkin.held import held_by_trees
from evenkin.number_texts import show_fraction, show_numbers
from evenkin.pairs import held_by_pairs
from evenkin.partings import coarsest_parting
from evenkin.rows import total_of
from evenkin.tables import table_total
from evenkin.term_texts import read_table, read_term, read_tree, show_tree
from evenkin.trees import term_of
from evenkin.turnings import first_turning
from evenkin.web_texts import read_web, show_web

LETTERS = "abcdefghijklmnopqrstuvwxyz"
MOST_LETTERS = 12

# How many names stand on a line, by its first word.
NAMES = {
    "web": 1, "drop": 1, "webs": 0, "show": 1, "total": 1, "table": 1, "maps": 1, "parting": 1,
    "trees": 2, "pairs": 2, "turning": 2,
}
# The lines on which a text stands behind the name and a colon.
WITH_TEXT = ("web", "total", "table", "maps")


def is_name(word):
    return 1 <= len(word) <= MOST_LETTERS and all([sign in LETTERS for sign in word])


def thing_of_text(first, text):
    if first == "web":
        return read_web(text)
    if first == "total":
        return read_term(text)
    if first == "table":
        return read_table(text)
    return read_tree(text)


def words_ahead(ahead):
    words = ahead.split(" ")
    names = words[1:]
    if NAMES.get(words[0]) != len(names) or not all([is_name(name) for name in names]):
        raise NoLine("no line: its words are those of none")
    return words


def read_line(line):
    parts = line.partition(": ")
    words = words_ahead(parts[0])
    first = words[0]
    if (first in WITH_TEXT) != (parts[1] != ""):
        raise NoLine("no line: a colon is left out or too much")
    if first not in WITH_TEXT:
        return (first, words[1:], None)
    try:
        return (first, words[1:], thing_of_text(first, parts[2]))
    except NoText as refusal:
        raise NoLine("no line: its text is refused") from refusal


def answer_of_show(webs, thing):
    return show_web(webs[0])


def answer_of_total(webs, term):
    return show_fraction(total_of(webs[0], term))


def answer_of_table(webs, term):
    return show_fraction(table_total(webs[0], term))


def answer_of_maps(webs, tree):
    return show_fraction(total_of(webs[0], term_of(tree)))


def answer_of_parting(webs, thing):
    return show_numbers(coarsest_parting(webs[0]))


def answer_of_trees(webs, thing):
    paper = held_by_trees(webs[0], webs[1])
    if paper[0] == "alike":
        return "alike"
    return " ".join(["unlike", show_tree(paper[1]), show_fraction(paper[2]), show_fraction(paper[3])])


def answer_of_pairs(webs, thing):
    paper = held_by_pairs(webs[0], webs[1])
    if paper[0] == "alike":
        return "alike"
    return " ".join(["unlike", show_fraction(paper[2]), show_fraction(paper[3])])


def answer_of_turning(webs, thing):
    turning = first_turning(webs[0], webs[1])
    return "none" if turning is None else show_numbers(turning)


# Each is handed the webs of the names on the line, and what its text stands for, or None.
ANSWERS = {
    "show": answer_of_show, "total": answer_of_total, "table": answer_of_table, "maps": answer_of_maps,
    "parting": answer_of_parting, "trees": answer_of_trees, "pairs": answer_of_pairs, "turning": answer_of_turning,
}


class Desk:
    def __init__(self):
        # A dict keeps its keys in the order in which they came, and a key given anew in its old place.
        self.webs = {}

    def web_named(self, name):
        if name not in self.webs:
            raise NoName(f"no web is named {name}")
        return self.webs[name]

    def names_in_order(self):
        return " ".join(list(self.webs)) if self.webs else "none"

    def say(self, line):
        asked = read_line(line)
        first = asked[0]
        names = asked[1]
        thing = asked[2]
        if first == "webs":
            return self.names_in_order()
        if first == "web":
            self.webs[names[0]] = thing
            return "ok"
        webs = [self.web_named(name) for name in names]
        if first == "drop":
            self.webs.pop(names[0])
            return "ok"
        return ANSWERS[first](webs, thing)
