import copy
import re
import unittest
from math import gcd
from random import Random

from evenkin.errors import KinError, NoText
from evenkin.parters import parting_tree
from evenkin.rows import row_of, total_of
from evenkin.tables import table_of_term
from evenkin.term_texts import read_table, read_term, read_tree, show_table, show_term, show_tree
from evenkin.trees import term_of
from helpers import (FRACTIONS, FROM_NOUGHT, LARGE_FRACTIONS, LATE_PAIRS, NO_NUMBERS, NUMBER, PATH, SIXTY,
                     any_row_term, any_table_term, changed_texts, check_own, check_refused, deep_tree, depth_of_term,
                     depth_of_tree, is_tree)

ONE, SAME, TIE, ALL = ("one",), ("same",), ("tie",), ("all",)
KNOT = (None, [])
NINES = "9" * 60
TREE_TEXTS = {
    "o": KNOT,
    "0": (0, []),
    "17": (17, []),
    NINES: (SIXTY, []),
    "o(o)": (None, [KNOT]),
    "o(0)": (None, [(0, [])]),
    "5(o)": (5, [KNOT]),
    "0(0 0)": (0, [(0, []), (0, [])]),
    "o(o o o)": (None, [KNOT, KNOT, KNOT]),
    "o(o(o) 3(o 4))": (None, [(None, [KNOT]), (3, [KNOT, (4, [])])]),
    "1(2(3(4(5))) 6)": (1, [(2, [(3, [(4, [(5, [])])])]), (6, [])]),
}
ROW_TEXTS = {
    "one": ONE,
    "hue 0": ("hue", 0),
    "hue 40": ("hue", 40),
    f"hue {NINES}": ("hue", SIXTY),
    "near one": ("near", ONE),
    "(one * hue 3)": ("both", ONE, ("hue", 3)),
    "(hue 3 + one)": ("plus", ("hue", 3), ONE),
    "0 of one": ("many", (0, 1), ONE),
    "7 of one": ("many", (7, 1), ONE),
    "-7 of one": ("many", (-7, 1), ONE),
    "1/2 of one": ("many", (1, 2), ONE),
    "-10/3 of one": ("many", (-10, 3), ONE),
    f"-{NINES}/{NINES[1:]}8 of one": ("many", (-SIXTY, SIXTY - 1), ONE),
    "rows tie": ("rows", TIE),
    "rows same": ("rows", SAME),
    "rows on one": ("rows", ("on", ONE)),
    "((one * one) + near (one + one))": ("plus", ("both", ONE, ONE), ("near", ("plus", ONE, ONE))),
    "2 of 1/3 of near near hue 1": ("many", (2, 1), ("many", (1, 3), ("near", ("near", ("hue", 1))))),
    "rows (tie then on near one)": ("rows", ("then", TIE, ("on", ("near", ONE)))),
}
TABLE_TEXTS = {
    "same": SAME,
    "tie": TIE,
    "all": ALL,
    "on one": ("on", ONE),
    "on hue 0": ("on", ("hue", 0)),
    "turned tie": ("turned", TIE),
    "(tie then all)": ("then", TIE, ALL),
    "(tie meet all)": ("meet", TIE, ALL),
    "(tie + all)": ("plus", TIE, ALL),
    "0 of all": ("many", (0, 1), ALL),
    "-5 of all": ("many", (-5, 1), ALL),
    "5/4 of all": ("many", (5, 4), ALL),
    "on rows tie": ("on", ("rows", TIE)),
    "((tie then tie) meet turned (same + all))": ("meet", ("then", TIE, TIE), ("turned", ("plus", SAME, ALL))),
    "on (rows all * 1/2 of near one)": ("on", ("both", ("rows", ALL), ("many", (1, 2), ("near", ONE)))),
}
ALL_FRACTIONS = FRACTIONS + LARGE_FRACTIONS
# Each kind of term with others in it, as its tuple and as its text, with the sides of what stands in it.
ROW_WRAPS = ((lambda t: ("near", t), "near {}", "row"), (lambda t: ("both", t, ONE), "({} * one)", "row"),
             (lambda t: ("both", ONE, t), "(one * {})", "row"), (lambda t: ("plus", t, ONE), "({} + one)", "row"),
             (lambda t: ("plus", ONE, t), "(one + {})", "row"), (lambda t: ("many", (-2, 3), t), "-2/3 of {}", "row"),
             (lambda t: ("rows", t), "rows {}", "table"))
TABLE_WRAPS = ((lambda t: ("on", t), "on {}", "row"), (lambda t: ("turned", t), "turned {}", "table"),
               (lambda t: ("then", t, TIE), "({} then tie)", "table"),
               (lambda t: ("then", TIE, t), "(tie then {})", "table"),
               (lambda t: ("meet", t, TIE), "({} meet tie)", "table"),
               (lambda t: ("meet", TIE, t), "(tie meet {})", "table"),
               (lambda t: ("plus", t, TIE), "({} + tie)", "table"),
               (lambda t: ("plus", TIE, t), "(tie + {})", "table"),
               (lambda t: ("many", (9, 1), t), "9 of {}", "table"))
WRAPS = {"row": ROW_WRAPS, "table": TABLE_WRAPS}
TEXTS = {"row": ROW_TEXTS, "table": TABLE_TEXTS}
READ = {"row": read_term, "table": read_table}
SHOW = {"row": show_term, "table": show_table}


def tree_text_there(tree):
    """The text of a tree by point 23."""
    wish = "o" if tree[0] is None else str(tree[0])
    return wish + (f"({' '.join(tree_text_there(bough) for bough in tree[1])})" if tree[1] else "")


def text_there(term):
    """The text of a row term or a table term by point 23."""
    kind = term[0]
    if kind == "hue":
        return f"hue {term[1]}"
    if kind == "many":
        top, bottom = term[1]
        return (f"{top}/{bottom}" if bottom > 1 else str(top)) + " of " + text_there(term[2])
    inner = [text_there(part) for part in term[1:]]
    if len(inner) == 2:
        sign = {"both": "*", "plus": "+", "then": "then", "meet": "meet"}[kind]
        return f"({inner[0]} {sign} {inner[1]})"
    return " ".join([kind] + inner)


def swallowed(text, rules):
    """What is left of a text when marks are put for pieces that are whole by the rules, as long as there are any."""
    before = None
    while text != before:
        before = text
        for rule, mark in rules:
            text = re.sub(rule, mark, text)
    return text


def depths_in(text):
    return [int(depth) for depth in re.findall(r"<[a-z]*([0-9]+)>", text)]


def deeper(mark):
    """What puts a mark, one deeper than the deepest in what is found, in its place."""
    return lambda found: f"<{mark}{1 + max(depths_in(found[0]), default=0)}>"


def is_lowest(found):
    return gcd(int(found["top"]), int(found["bottom"] or 1)) == 1


def many_mark(mark):
    """As deeper, for a fraction ahead of a term: what is not in lowest terms stays and so is never swallowed."""
    return lambda found: deeper(mark)(found) if is_lowest(found) and found["bottom"] != "1" else found[0]


def rules_of_side(mark, leaves, ahead, signs):
    """The rules of point 23 for row terms or table terms, marked with their depths."""
    inner = rf"<{mark}[0-9]+>"
    fraction = rf"(?<![0-9/-])(?P<top>{NUMBER})(?:/(?P<bottom>[1-9][0-9]{{0,59}}))?"
    return ([(leaf, deeper(mark)) for leaf in leaves]
            + [(f"{word} <{side}[0-9]+>", deeper(mark)) for word, side in ahead]
            + [(rf"\({inner} {sign} {inner}\)", deeper(mark)) for sign in signs]
            + [(f"{fraction} of {inner}", many_mark(mark))])


RULES = (rules_of_side("row", ("one", rf"hue {FROM_NOUGHT}(?![0-9])"), (("near", "row"), ("rows", "table")),
                       (r"\*", r"\+"))
         + rules_of_side("table", ("same", "tie", "all"), (("on", "row"), ("turned", "table")),
                         ("then", "meet", r"\+")))
TREE = r"<(?:bare|tree)[0-9]+>"
TREE_RULES = [(rf"(?<![<0-9a-z])(?:o|{FROM_NOUGHT})(?![0-9>a-z])", "<bare1>"),
              (rf"<bare1>\({TREE}(?: {TREE})*\)", deeper("tree"))]


def is_text(side, text):
    """Whether a text is that of a term of this side, at most twenty deep, by its pieces swallowed one by one."""
    if "<" in text or ">" in text:
        return False
    left = re.fullmatch(rf"<{side}([0-9]+)>", swallowed(text, RULES))
    return left is not None and int(left[1]) <= 20


def is_tree_text(text):
    if "<" in text or ">" in text:
        return False
    left = re.fullmatch(r"<(?:bare|tree)([0-9]+)>", swallowed(text, TREE_RULES))
    return left is not None and int(left[1]) <= 20


def any_tree(chance, depth):
    wish = chance.choice((None, None, 0, 7, SIXTY))
    if depth == 1:
        return (wish, [])
    boughs = [any_tree(chance, depth - 1)]
    boughs += [any_tree(chance, chance.randint(1, min(3, depth - 1))) for bough in range(chance.randint(0, 2))]
    chance.shuffle(boughs)
    return (wish, boughs)


def any_term(side, chance, depth):
    if side == "row":
        return any_row_term(chance, depth, ALL_FRACTIONS, True)
    return any_table_term(chance, depth, ALL_FRACTIONS)


def wrapped(side, depth, chance):
    """A text of just this depth and its term, of kinds of terms around a leaf."""
    if depth == 1:
        return ("one", ONE) if side == "row" else ("tie", TIE)
    make, text, inner_side = chance.choice(WRAPS[side])
    inner_text, inner = wrapped(inner_side, depth - 1, chance)
    return (text.replace("{}", inner_text), make(inner))


class Texts(unittest.TestCase):
    def check_read(self, ask, text, right):
        told = ask(text)
        self.assertIs(type(told), tuple)
        self.assertEqual(told, right)

    def check_refused(self, ask, text):
        check_refused(self, ask, text, NoText)


class Trees(Texts):
    def check_any(self, text):
        if not is_tree_text(text):
            self.check_refused(read_tree, text)
            return False
        told = read_tree(text)
        self.assertTrue(is_tree(told))
        self.assertEqual(tree_text_there(told), text)
        return True

    def test_texts(self):
        for text, tree in TREE_TEXTS.items():
            self.assertEqual(show_tree(tree), text)
            self.check_read(read_tree, text, tree)
            self.assertTrue(is_tree(read_tree(text)))
            self.assertTrue(is_tree_text(text))

    def test_what_is_shown_is_read_as_the_same(self):
        chance = Random(321)
        for turn in range(300):
            tree = any_tree(chance, chance.randint(1, 8))
            self.assertEqual(show_tree(tree), tree_text_there(tree))
            self.check_read(read_tree, show_tree(tree), tree)

    def test_told_trees(self):
        for web, other in LATE_PAIRS:
            tree = parting_tree(web, other)
            self.check_read(read_tree, show_tree(tree), tree)

    def test_twenty_deep_and_deeper(self):
        for wishes in ((None,), (0, None, SIXTY)):
            for beside in ((), (KNOT,), ((3, []), KNOT)):
                for depth in (19, 20):
                    tree = deep_tree(depth, wishes, beside)
                    self.assertEqual(depth_of_tree(tree), depth)
                    self.check_read(read_tree, show_tree(tree), tree)
                for depth in (21, 22, 60):
                    tree = deep_tree(depth, wishes, beside)
                    self.assertEqual(show_tree(tree), tree_text_there(tree))
                    self.check_refused(read_tree, show_tree(tree))

    def test_deep_in_the_last_bough(self):
        deep = deep_tree(19, (None,))
        self.check_read(read_tree, f"o(o o {show_tree(deep)})", (None, [KNOT, KNOT, deep]))
        self.check_refused(read_tree, f"o(o o(o {show_tree(deep)}))")

    def test_many_boughs(self):
        for many in (300, 1990):
            self.check_read(read_tree, "o(" + " ".join(["o"] * many) + ")", (None, [KNOT] * many))

    def test_numbers_that_are_none(self):
        for number in NO_NUMBERS + ("-1", "-" + NINES, "1/2"):
            self.check_refused(read_tree, number)
            self.check_refused(read_tree, f"{number}(o)")
            self.check_refused(read_tree, f"o(o {number})")

    def test_texts_that_are_none(self):
        for text in ("", " ", "()", "o()", "0()", "o( )", "o(o", "o(o))", "oo", "o o", "o (o)", "o(o )", "o( o)",
                     "o(o  o)", " o", "o ", "o(o) ", "(o)", "((o))", "o((o))", "o(o)(o)", "o(o)o", "o(o,o)", "o(oo)",
                     "o(o)o(o)", "o)", "o)(", ")", "(", "o(", "o[o]", "O", "o0", "0o", "one", "hue 0", "x", "None",
                     "o(None)", "o(o(o)", "o(o(o)))", "o(o)(", "1 2", "o(1(2)3)", "o(1(2) 3))", "o\n", "o(o\to)",
                     "\u00f8", "o%"):
            self.check_refused(read_tree, text)

    def test_very_long_texts(self):
        for text in ("o(" * 2000, "(" * 4000, ")" * 4000, "o" * 4000, "9" * 4000, " " * 4000,
                     "o(" * 1500 + "o" + ")" * 1500, "o(o" + " o" * 1990):
            self.check_refused(read_tree, text)

    def test_texts_with_one_sign_changed(self):
        found = [self.check_any(changed) for text in ("o", "10", "o(o)", "0(12 o)", "o(o(o) 3(o 4))")
                 for changed in changed_texts(text)]
        self.assertEqual(set(found), {True, False})

    def test_texts_with_several_signs_changed(self):
        chance = Random(322)
        found = []
        for turn in range(2000):
            text = chance.choice(list(TREE_TEXTS))
            for change in range(chance.randint(1, 5)):
                place = chance.randrange(len(text) + 1)
                text = text[:place] + chance.choice("  (()) o0123") + text[place + chance.randint(0, 2):]
            found.append(self.check_any(text))
        self.assertEqual(set(found), {True, False})


class Terms(Texts):
    def check_any(self, side, text):
        if not is_text(side, text):
            self.check_refused(READ[side], text)
            return False
        told = READ[side](text)
        self.assertEqual(text_there(told), text)
        return True

    def test_texts(self):
        for side in TEXTS:
            for text, term in TEXTS[side].items():
                self.assertEqual(SHOW[side](term), text)
                self.check_read(READ[side], text, term)
                self.assertTrue(is_text(side, text))

    def test_each_kind_within_each_other_one(self):
        for side in WRAPS:
            for make, text, inner_side in WRAPS[side]:
                for inner_text, inner in TEXTS[inner_side].items():
                    whole, term = text.replace("{}", inner_text), make(inner)
                    self.assertEqual(SHOW[side](term), whole)
                    self.check_read(READ[side], whole, term)

    def test_terms_of_the_other_side_are_refused(self):
        for side, other in (("row", "table"), ("table", "row")):
            for text in TEXTS[other]:
                self.check_refused(READ[side], text)
                for make, around, inner_side in WRAPS[side]:
                    if inner_side == side:
                        self.check_refused(READ[side], around.replace("{}", text))
                for make, around, inner_side in WRAPS[other]:
                    if inner_side == side:
                        self.check_refused(READ[other], around.replace("{}", text))

    def test_what_is_shown_is_read_as_the_same(self):
        chance = Random(323)
        for side in TEXTS:
            for turn in range(300):
                term = any_term(side, chance, chance.randint(1, 12))
                self.assertEqual(SHOW[side](term), text_there(term))
                self.check_read(READ[side], SHOW[side](term), term)

    def test_what_is_read_has_the_same_rows_and_tables(self):
        chance = Random(324)
        for turn in range(30):
            term, table = any_term("row", chance, 5), any_term("table", chance, 5)
            self.assertEqual(row_of(PATH, read_term(show_term(term))), row_of(PATH, term))
            self.assertEqual(table_of_term(PATH, read_table(show_table(table))), table_of_term(PATH, table))

    def test_twenty_deep_and_deeper(self):
        chance = Random(325)
        for side in TEXTS:
            for turn in range(60):
                for depth in (19, 20, 21, 22):
                    text, term = wrapped(side, depth, chance)
                    self.assertEqual(depth_of_term(term), depth)
                    self.assertEqual(SHOW[side](term), text)
                    if depth <= 20:
                        self.check_read(READ[side], text, term)
                    else:
                        self.check_refused(READ[side], text)

    def test_each_kind_twenty_deep_and_deeper(self):
        for side in TEXTS:
            for make, around, inner_side in WRAPS[side]:
                text, term = wrapped(inner_side, 19, Random(326))
                self.check_read(READ[side], around.replace("{}", text), make(term))
                text, term = wrapped(inner_side, 20, Random(326))
                self.check_refused(READ[side], around.replace("{}", text))
                self.assertEqual(SHOW[side](make(term)), around.replace("{}", text))

    def test_a_hue_is_as_deep_as_one(self):
        self.check_read(read_term, "near " * 19 + "hue 5", read_term("near " * 19 + "hue 5"))
        self.assertEqual(depth_of_term(read_term("near " * 19 + "hue 5")), 20)
        self.check_refused(read_term, "near " * 20 + "hue 5")
        for leaf in ("same", "tie", "all"):
            self.assertEqual(depth_of_term(read_table("turned " * 19 + leaf)), 20)
            self.check_refused(read_table, "turned " * 20 + leaf)

    def test_terms_far_deeper_can_be_shown(self):
        term, table, text, table_text = ONE, TIE, "one", "tie"
        for turn in range(5000):
            term, text = ("near", term), "near " + text
            table, table_text = ("turned", table), "turned " + table_text
        self.assertEqual(show_term(term), text)
        self.assertEqual(show_table(table), table_text)
        self.assertEqual(show_term(term_of((None, [KNOT] * 300))), "(" * 300 + "one" + " * near one)" * 300)
        many = term_of(deep_tree(20, (None, 3), [KNOT] * 299))
        self.assertEqual(show_term(many).count("near"), 19 * 300)
        self.check_refused(read_term, show_term(many))

    def test_terms_of_trees(self):
        chance = Random(327)
        for turn in range(100):
            term = term_of(any_tree(chance, chance.randint(1, 4)))
            self.assertEqual(show_term(term), text_there(term))
            if depth_of_term(term) <= 20:
                self.check_read(read_term, show_term(term), term)

    def test_fractions(self):
        for f in ALL_FRACTIONS + ((2, 3), (-1, 7), (SIXTY, 2), (1, 10 ** 59)):
            top, bottom = f
            text = str(top) if bottom == 1 else f"{top}/{bottom}"
            for side, leaf in (("row", "one"), ("table", "tie")):
                term = ("many", f, (leaf,))
                self.assertEqual(SHOW[side](term), f"{text} of {leaf}")
                self.check_read(READ[side], f"{text} of {leaf}", term)

    def test_fractions_that_are_none(self):
        wrong = ("2/4", "3/3", "-6/4", "0/2", "0/1", "1/1", "-7/1", "1/0", "0/0", "1/-2", "-1/-2", "1/+2", "+1/2",
                 "1/02", "01/2", "-0/3", "1/", "/2", "1//2", "1/2/3", "1 /2", "1/ 2", "1 / 2", "1:2", "", "1/x", "-",
                 "1/" + "1" * 61, "1" * 61 + "/2", f"{SIXTY}/{3 * 37}", f"{10 ** 59}/{10 ** 58}", "(1/2)", "1/2 1",
                 "one", "1 of")
        for f in wrong + tuple(number for number in NO_NUMBERS):
            self.check_refused(read_term, f"{f} of one")
            self.check_refused(read_table, f"{f} of tie")
            self.check_refused(read_term, f"(one + {f} of one)")

    def test_hues_that_are_none(self):
        for number in NO_NUMBERS + ("-1", "-" + NINES, "1/2", "o", "None"):
            self.check_refused(read_term, f"hue {number}")
            self.check_refused(read_term, f"(hue {number} * one)")
            self.check_refused(read_table, f"on hue {number}")

    def test_texts_that_are_none(self):
        for text in ("", " ", "()", "( )", "(one)", "(one *)", "(* one)", "(one * )", "( * one)", "(one * one",
                     "one * one)", "one * one", "one + one", "((one * one)", "(one * one))", "((one * one))",
                     "(one * one * one)", "(one*one)", "(one  * one)", "(one *  one)", "( one * one)", "(one * one )",
                     "(one- one)", "(one - one)", "(one / one)", "(one both one)", "(one plus one)", "(one then one)",
                     "(one meet one)", " one", "one ", "one one", "oneone", "One", "ones", "on", "o", "near", "near ",
                     "nearone", "near  one", "near(one * one)", "near (one)", "near near", "Near one", "rows",
                     "rows ", "rowstie", "rows  tie", "row tie", "rows one", "rows hue 3", "hue", "hue ", "hue  3",
                     "hue3", "hue 3 ", "hue 3 4", "hues 3", "1", "1/2", "1 one", "1 of", "1 of ", "1 ofone",
                     "1of one", "1  of one", "1 of  one", "of one", "1 of 2", "1 of 2 of", "many 1 one",
                     "both one one", "hue -1", "hue one", "(one * one)(one * one)", "(one * one) one", "near one one",
                     "2 of one of one", "rows rows tie", "one\n", "one\tone", "near\u00a0one", "o(o)",
                     "(one \u00d7 one)", "one%", "[one * one]", "('one',)", "one)", "(one", ")one(", "(one * near )"):
            self.check_refused(read_term, text)
        for text in ("", " ", "()", "( )", "(tie)", "(tie then)", "(then tie)", "(tie then )", "( then tie)",
                     "(tie then tie", "tie then tie)", "tie then tie", "tie + tie", "((tie then tie)",
                     "(tie then tie))", "((tie then tie))", "(tie then tie then tie)", "(tiethen tie)",
                     "(tie thentie)", "(tie  then tie)", "(tie then  tie)", "( tie then tie)", "(tie then tie )",
                     "(tie * tie)", "(tie - tie)", "(tie plus tie)", "(tie and tie)", "(tie meets tie)", "(tie+tie)",
                     " tie", "tie ", "tie tie", "tietie", "Tie", "ties", "sames", "al", "on", "on ", "onone",
                     "on  one", "on tie", "on same", "on all", "on on one", "one", "hue 0", "near tie", "rows tie",
                     "turned", "turned ", "turnedtie", "turned  tie", "turned(tie then tie)", "turn tie",
                     "turned one", "1", "1 tie", "1 of", "1 of ", "1 oftie", "1of tie", "1 of  tie", "of tie",
                     "1 of one", "1 of 2", "meet tie tie", "(tie then one)", "(one then tie)", "tie\n",
                     "(tie\tthen tie)", "same%", "[tie then tie]", "tie)", "(tie", "on (one", "on (one * one) tie",
                     "turned tie tie", "\u1d57ie"):
            self.check_refused(read_table, text)

    def test_a_refusal_is_a_kin_error_and_a_value_error(self):
        for ask in (read_tree, read_term, read_table):
            for refusal in (NoText, KinError, ValueError):
                with self.assertRaises(refusal):
                    ask("none")

    def test_very_long_texts(self):
        for text in ("(" * 4000, "near " * 800, "turned " * 570 + "tie", "1 of " * 800, "on rows " * 500, "9" * 4000,
                     "hue " + "1" * 3996, "-" * 4000, " " * 4000, "(one + " * 570, "1/" + "3" * 3990 + " of one"):
            self.check_refused(read_term, text)
            self.check_refused(read_table, text)

    def test_long_texts_that_are_read(self):
        term = ONE
        for turn in range(9):
            term = ("plus", term, term)
        self.assertGreater(len(show_term(term)), 3000)
        self.check_read(read_term, show_term(term), term)
        self.assertEqual(total_of(PATH, read_term(show_term(term))), (3 * 2 ** 9, 1))

    def test_texts_with_one_sign_changed(self):
        found = []
        for text in ("one", "hue 10", "near one", "(one * hue 3)", "-10/3 of one", "rows on (one + one)"):
            found += [self.check_any("row", changed) for changed in changed_texts(text)]
        for text in ("same", "on one", "turned all", "(tie meet 6/5 of tie)", "(tie then on rows (all + tie))"):
            found += [self.check_any("table", changed) for changed in changed_texts(text)]
        self.assertEqual(set(found), {True, False})

    def test_texts_with_several_pieces_changed(self):
        chance = Random(328)
        pieces = ["one", "hue 1", "near ", "(", ")", " * ", " + ", "2 of ", "1/2 of ", "4/2 of ", "rows ", "same",
                  "tie", "all", "on ", "turned ", " then ", " meet ", " ", "0", "-", "", ""]
        found = {side: [] for side in TEXTS}
        for turn in range(3000):
            side = chance.choice(("row", "table"))
            words = re.split(r"(?<= )|(?=[() ])", text_there(any_term(side, chance, chance.randint(1, 4))))
            for change in range(chance.randint(0, 2)):
                words[chance.randrange(len(words))] = chance.choice(pieces)
            found[side].append(self.check_any(side, "".join(words)))
        for side in TEXTS:
            self.assertEqual(set(found[side]), {True, False})


class WhatIsHandedInAndTold(unittest.TestCase):
    def test_own(self):
        for text, tree in TREE_TEXTS.items():
            check_own(self, show_tree, [copy.deepcopy(tree)])
            check_own(self, read_tree, [text])
        for side in TEXTS:
            for text, term in TEXTS[side].items():
                check_own(self, SHOW[side], [term])
                check_own(self, READ[side], [text])

    def test_a_read_tree_is_changed_and_read_again(self):
        tree = read_tree("o(o o(3))")
        tree[1][1][1].append(KNOT)
        tree[1].pop(0)
        self.assertEqual(show_tree(tree), "o(o(3 o))")
        self.assertEqual(read_tree("o(o o(3))"), (None, [KNOT, (None, [(3, [])])]))
