import re
import unittest
from random import Random

from evenkin.desk import Desk
from evenkin.errors import KinError, NoLine, NoName
from evenkin.held import held_by_trees, look_trees
from evenkin.pairs import held_by_pairs
from evenkin.partings import coarsest_parting
from evenkin.rows import total_of
from evenkin.tables import table_total
from evenkin.term_texts import read_tree, show_table, show_term, show_tree
from evenkin.trees import maps_total
from evenkin.turnings import first_turning
from evenkin.web_texts import show_web
from evenkin.webs import web_renamed
from helpers import (BARE, CUBE, EIGHT, FRACTIONS, LARGE, LATE_PAIRS, LIKE_POWERS, NO_NUMBERS, NO_PLACES, ONE_PLACE,
                     ORDER, PATH, SIXTY, THREE, TREE_ALIKE, TWO, TWO_HUES, UNLIKE_PAIRS, all_webs, any_row_term,
                     any_table_term, changed_texts, check_refused, deep_tree, ring, row_there, scaled, some_webs,
                     steps_total_there, sums_by_place, table_there, web_of, web_of_own_weights, with_hue)

PATH_TEXT = "hues 0 0 0; row 0 1 0; row 1 0 1; row 0 1 0"
RING_TEXT = "hues 0 0 0; row 0 1 1; row 1 0 1; row 1 1 0"
# A right line of each first word.
LINES = ("web a: " + PATH_TEXT, "drop a", "webs", "show a", "total a: near one", "table a: (tie then tie)",
         "maps a: o(o 0)", "parting a", "trees a b", "pairs a b", "turning a b")
WITH_TEXT = ("web", "total", "table", "maps")
WITH_ONE_NAME = ("drop", "show", "parting")
WITH_TWO_NAMES = ("trees", "pairs", "turning")
TEXTS = {"web": "hues 3; row 1", "total": "one", "table": "tie", "maps": "o"}
NO_NAMES = ("abcdefghijklm", "A", "aB", "Ab", "a1", "1", "a_b", "a-b", "a.b", "", "a:", ":a", "\u00e4", "a\u00e4",
            "a\t", "\u0430", "a%", "x" * 3000, "a,b", "\u00df", "a\n")
# The forms of all lines: those behind the first can have a name that no web has.
FORMS = ("webs|web [a-z]{1,12}: [^ ]+( [^ ]+)*", "(drop|show|parting) [a-z]{1,12}",
         "(trees|pairs|turning) [a-z]{1,12} [a-z]{1,12}", "(total|table|maps) [a-z]{1,12}: [^ ]+( [^ ]+)*")


def desk_with(**webs):
    desk = Desk()
    for name, web in webs.items():
        desk.say(f"web {name}: {show_web(web)}")
    return desk


def fraction_text(f):
    return str(f[0]) if f[1] == 1 else f"{f[0]}/{f[1]}"


def numbers_text(numbers):
    return " ".join(str(number) for number in numbers)


class AtTheDesk(unittest.TestCase):
    def say(self, desk, line, right):
        told = desk.say(line)
        self.assertIs(type(told), str)
        self.assertEqual(told, right, line)

    def check_refused(self, desk, line, refusal):
        check_refused(self, desk.say, line, refusal)


class Keeping(AtTheDesk):
    def test_webs_by_names(self):
        desk = Desk()
        self.say(desk, "webs", "none")
        self.say(desk, "web b: " + PATH_TEXT, "ok")
        self.say(desk, "webs", "b")
        self.say(desk, "web a: hues", "ok")
        self.say(desk, "web c: hues 7; row -3", "ok")
        self.say(desk, "webs", "b a c")
        self.say(desk, "show b", PATH_TEXT)
        self.say(desk, "show a", "hues")
        self.say(desk, "show c", "hues 7; row -3")

    def test_a_name_told_anew_keeps_its_old_place(self):
        desk = desk_with(x=PATH, y=TWO, z=NO_PLACES)
        self.say(desk, "web x: hues 4; row 5", "ok")
        self.say(desk, "webs", "x y z")
        self.say(desk, "show x", "hues 4; row 5")
        self.say(desk, "web y: hues", "ok")
        self.say(desk, "web z: hues", "ok")
        self.say(desk, "webs", "x y z")
        self.say(desk, "show y", "hues")

    def test_a_dropped_name_is_forgotten(self):
        desk = desk_with(x=PATH, y=TWO, z=NO_PLACES)
        self.say(desk, "drop y", "ok")
        self.say(desk, "webs", "x z")
        for line in ("show y", "drop y", "total y: one", "trees x y", "turning y y"):
            self.check_refused(desk, line, NoName)
        self.say(desk, "web y: hues 1; row 1", "ok")
        self.say(desk, "webs", "x z y")
        self.say(desk, "show y", "hues 1; row 1")
        self.say(desk, "drop x", "ok")
        self.say(desk, "web x: hues", "ok")
        self.say(desk, "webs", "z y x")

    def test_all_names_dropped(self):
        desk = desk_with(x=PATH, y=TWO)
        self.say(desk, "drop x", "ok")
        self.say(desk, "drop y", "ok")
        self.say(desk, "webs", "none")
        self.say(desk, "web y: hues", "ok")
        self.say(desk, "webs", "y")

    def test_two_desks_have_nothing_in_common(self):
        desk, other = Desk(), Desk()
        self.say(desk, "web a: " + PATH_TEXT, "ok")
        self.say(other, "webs", "none")
        self.check_refused(other, "show a", NoName)
        self.say(other, "web a: hues", "ok")
        self.say(other, "web b: hues", "ok")
        self.say(desk, "show a", PATH_TEXT)
        self.say(desk, "webs", "a")
        self.say(other, "drop a", "ok")
        self.say(desk, "webs", "a")
        self.say(Desk(), "webs", "none")

    def test_names(self):
        names = ["a", "z", "abcdefghijkl", "zzzzzzzzzzzz", "ab", "abc", "abcd", "web", "webs", "drop", "none", "hues",
                 "ok", "o", "one", "tie", "trees", "alike"]
        desk = Desk()
        for size, name in enumerate(names):
            web = web_of_own_weights([size])
            self.say(desk, f"web {name}: {show_web(web)}", "ok")
        self.say(desk, "webs", " ".join(names))
        for size, name in enumerate(names):
            self.say(desk, f"show {name}", f"hues 0; row {size}")
            self.say(desk, f"table {name}: tie", str(size))
        self.say(desk, "drop ab", "ok")
        self.say(desk, "webs", " ".join(name for name in names if name != "ab"))
        self.say(desk, "show abc", "hues 0; row 5")
        self.check_refused(desk, "show ab", NoName)

    def test_many_names(self):
        desk = Desk()
        names = [first + second for first in "zyxabc" for second in "pqrstuvw"]
        for name in names:
            self.say(desk, f"web {name}: hues", "ok")
        self.say(desk, "webs", " ".join(names))

    def test_what_is_shown_is_told_again(self):
        desk = Desk()
        largest = ([SIXTY] * 8, [[-SIXTY] * 8 for u in range(8)])
        for web in (NO_PLACES, ONE_PLACE, TWO, THREE, LARGE, EIGHT, CUBE, web_of(8), largest):
            self.say(desk, "web a: " + show_web(web), "ok")
            self.say(desk, "show a", show_web(web))
            self.say(desk, "web b: " + desk.say("show a"), "ok")
            self.say(desk, "show b", show_web(web))

    def test_lines_that_ask_change_nothing(self):
        desk = desk_with(a=PATH, b=ring(3))
        for turn in range(3):
            for line in LINES[2:]:
                desk.say(line)
            self.say(desk, "show a", PATH_TEXT)
            self.say(desk, "show b", RING_TEXT)
            self.say(desk, "webs", "a b")


class Asking(AtTheDesk):
    def test_each_line(self):
        desk = desk_with(a=PATH, b=ring(3))
        for line, right in (
                ("webs", "a b"), ("show b", RING_TEXT), ("total a: near one", "4"), ("total a: 1/3 of near one", "4/3"),
                ("total a: -1/2 of one", "-3/2"), ("total a: 0 of one", "0"), ("total b: rows tie", "6"),
                ("table a: tie", "4"), ("table b: (tie then tie)", "12"), ("table a: 1/9 of all", "1"),
                ("table a: -1/4 of on hue 0", "-3/4"), ("maps a: o", "3"), ("maps a: o(o o)", "6"), ("maps a: 1", "0"),
                ("parting a", "0 1 0"), ("parting b", "0 0 0"), ("trees a b", "unlike o(o) 4 6"),
                ("trees b a", "unlike o(o) 6 4"), ("trees a a", "alike"), ("pairs a b", "unlike 4 6"),
                ("pairs b a", "unlike 6 4"), ("pairs b b", "alike"), ("turning a b", "none"), ("turning a a", "0 1 2"),
                ("drop a", "ok"), ("webs", "b")):
            self.say(desk, line, right)

    def test_totals(self):
        chance = Random(341)
        for web in (NO_PLACES, ONE_PLACE, TWO, THREE, LARGE, EIGHT):
            desk = desk_with(it=web)
            for turn in range(12):
                term = any_row_term(chance, chance.randint(1, 6), FRACTIONS, True)
                table = any_table_term(chance, chance.randint(1, 6), FRACTIONS)
                self.say(desk, "total it: " + show_term(term), fraction_text(total_of(web, term)))
                self.say(desk, "table it: " + show_table(table), fraction_text(table_total(web, table)))
                self.say(desk, "total it: " + show_term(term), str(sum(row_there(web, term))))
                sums = [sum(row) for row in table_there(web, table)]
                self.say(desk, "table it: " + show_table(table), str(sum(sums)))

    def test_terms_twenty_deep(self):
        desk = desk_with(a=PATH, b=ring(3))
        self.say(desk, "total b: " + "near " * 19 + "one", str(3 * 2 ** 19))
        self.say(desk, "table b: " + "turned " * 19 + "tie", "6")
        self.say(desk, "maps b: " + show_tree(deep_tree(20, (None,))), str(3 * 2 ** 19))
        self.check_refused(desk, "total b: " + "near " * 20 + "one", NoLine)
        self.check_refused(desk, "table b: " + "turned " * 20 + "tie", NoLine)
        self.check_refused(desk, "maps b: " + show_tree(deep_tree(21, (None,))), NoLine)

    def test_maps(self):
        for web in (NO_PLACES, ONE_PLACE, TWO, THREE, LARGE, EIGHT):
            desk = desk_with(it=web)
            for text in ("o", "0", "1", "5(o 1)", "o(o o o)", "o(o(o) 0(o 1))", "0(1(0(1(0))) o)"):
                tree = read_tree(text)
                self.say(desk, "maps it: " + text, str(sum(sums_by_place(web, tree))))
                self.say(desk, "maps it: " + text, str(maps_total(web, tree)))

    def test_maps_of_very_many_boughs(self):
        desk = desk_with(a=PATH)
        self.say(desk, "maps a: o(" + " ".join(["o"] * 1900) + ")", str(2 + 2 ** 1900))

    def test_partings(self):
        for web in (ONE_PLACE, TWO, THREE, PATH, LARGE, EIGHT, CUBE, ring(3, 5), web_of(8), with_hue(ring(8), 3, 1)):
            desk = desk_with(it=web)
            self.say(desk, "parting it", numbers_text(coarsest_parting(web)))
        self.say(desk_with(it=with_hue(ring(8), 3, 1)), "parting it", "0 1 2 3 2 1 0 4")

    def test_trees_pairs_and_turnings(self):
        pairs = TREE_ALIKE + UNLIKE_PAIRS + ((BARE, BARE), (CUBE, web_renamed(CUBE, ORDER)), (LARGE, LARGE))
        for web, other in pairs:
            desk = desk_with(here=web, there=other)
            self.check_trees(web, other, desk.say("trees here there"))
            self.check_pairs(web, other, desk.say("pairs here there"))
            turning = first_turning(web, other)
            self.say(desk, "turning here there", "none" if turning is None else numbers_text(turning))

    def check_trees(self, web, other, told):
        paper = held_by_trees(web, other)
        words = told.split(" ")
        self.assertEqual(words[0], paper[0])
        if paper[0] == "alike":
            self.assertEqual(told, "alike")
        else:
            self.assertEqual(told, f"unlike {show_tree(paper[1])} {fraction_text(paper[2])} {fraction_text(paper[3])}")
            tree = read_tree(" ".join(words[1:-2]))
            totals = [(int(word), 1) for word in words[-2:]]
            self.assertIs(look_trees(web, other, ("unlike", tree, *totals)), True)

    def check_pairs(self, web, other, told):
        paper = held_by_pairs(web, other)
        if paper[0] == "alike":
            self.assertEqual(told, "alike")
        else:
            totals = [steps_total_there(one, paper[1]) for one in (web, other)]
            self.assertEqual(told, f"unlike {fraction_text(totals[0])} {fraction_text(totals[1])}")
            self.assertNotEqual(totals[0], totals[1])

    def test_alike_by_trees_and_not_by_pairs(self):
        desk = desk_with(six=ring(6), threes=ring(3, 3))
        self.say(desk, "trees six threes", "alike")
        self.assertRegex(desk.say("pairs six threes"), r"\Aunlike -?[0-9/]+ -?[0-9/]+\Z")
        self.say(desk, "turning six threes", "none")

    def test_turnings(self):
        web = web_of(4)
        desk = desk_with(a=web, b=web_renamed(web, [2, 0, 1, 3]), c=PATH, d=web_renamed(PATH, [1, 0, 2]), e=ONE_PLACE)
        self.say(desk, "turning a b", "1 2 0 3")
        self.say(desk, "turning b a", "2 0 1 3")
        self.say(desk, "turning c d", "1 0 2")
        self.say(desk, "turning d c", "1 0 2")
        self.say(desk, "turning a c", "none")
        self.say(desk, "turning e e", "0")

    def test_one_web_by_two_names_and_one_name_twice(self):
        desk = desk_with(a=CUBE, b=CUBE)
        for names in ("a b", "b a", "a a", "b b"):
            self.say(desk, f"trees {names}", "alike")
            self.say(desk, f"pairs {names}", "alike")
            self.say(desk, f"turning {names}", "0 1 2 3 4 5 6 7")
        self.say(desk, "web a: hues", "ok")
        self.say(desk, "show b", show_web(CUBE))
        self.say(desk, "drop a", "ok")
        self.say(desk, "show b", show_web(CUBE))

    def test_the_web_without_places(self):
        desk = desk_with(no=NO_PLACES, one=ONE_PLACE)
        for line, right in (("show no", "hues"), ("total no: one", "0"), ("total no: 1/2 of near one", "0"),
                            ("table no: all", "0"), ("maps no: o(o)", "0"), ("parting no", ""),
                            ("trees no no", "alike"), ("pairs no no", "alike"), ("turning no no", ""),
                            ("turning no one", "none"), ("turning one no", "none"), ("trees no one", "unlike o 0 1"),
                            ("trees one no", "unlike o 1 0"), ("webs", "no one"), ("drop no", "ok"), ("webs", "one"),
                            ("web no: hues", "ok")):
            self.say(desk, line, right)
        for names, right in (("no one", r"unlike 0 [1-9]\d*"), ("one no", r"unlike [1-9]\d* 0")):
            self.assertRegex(desk.say(f"pairs {names}"), rf"\A{right}\Z")

    def test_which_web_is_named_first_changes_no_word(self):
        for web, other in TREE_ALIKE + UNLIKE_PAIRS + ((PATH, web_renamed(PATH, [1, 0, 2])),):
            desk = desk_with(a=web, b=other)
            for word in ("trees", "pairs"):
                one, another = desk.say(f"{word} a b").split(" "), desk.say(f"{word} b a").split(" ")
                if one[0] == "unlike":
                    one[-2:] = one[:-3:-1]
                self.assertEqual(one, another)
            one, another = desk.say("turning a b"), desk.say("turning b a")
            self.assertEqual(one == "none", another == "none")

    def test_small_webs_have_short_answers(self):
        chance = Random(342)
        webs = list(some_webs(3, (0,), (-99, 0, 1, 99), 40, 343)) + list(some_webs(2, (0, SIXTY), (-99, 99), 10, 344))
        webs += list(some_webs(3, (SIXTY, SIXTY - 1), range(-99, 100), 20, 345))
        webs += list(some_webs(3, (SIXTY,), (0, 1), 40, 346)) + list(all_webs(1, (0, SIXTY), (0, 99))) + [NO_PLACES]
        for web in webs:
            for other in chance.sample(webs, 8):
                desk = desk_with(a=web, b=other)
                for word in ("trees", "pairs"):
                    self.assertLessEqual(len(desk.say(f"{word} a b")), 4000)

    def test_large_webs(self):
        for web, other in ((scaled(ring(8), SIXTY), scaled(ring(7), -SIXTY)), LIKE_POWERS, LATE_PAIRS[0],
                           (scaled(LATE_PAIRS[1][0], SIXTY), scaled(LATE_PAIRS[1][1], SIXTY))):
            desk = desk_with(a=web, b=other)
            self.check_trees(web, other, desk.say("trees a b"))
            self.check_pairs(web, other, desk.say("pairs a b"))


class Refusing(AtTheDesk):
    def setUp(self):
        self.desk = desk_with(a=PATH, b=ring(3))

    def check_no_line(self, line):
        """Refused ahead of all else, with the names that it has as with others, and nothing is changed by it."""
        for desk, names, shown in ((self.desk, "a b", PATH_TEXT), (Desk(), "none", None)):
            self.check_refused(desk, line, NoLine)
            self.say(desk, "webs", names)
            if shown:
                self.say(desk, "show a", shown)
                self.say(desk, "show b", RING_TEXT)

    def test_right_lines_are_not_refused(self):
        for line in LINES:
            desk_with(a=PATH, b=ring(3)).say(line)

    def test_a_refusal_is_a_kin_error_and_a_value_error(self):
        for refusal in (NoLine, KinError, ValueError):
            with self.assertRaises(refusal):
                self.desk.say("")
        for refusal in (NoName, KinError, ValueError):
            with self.assertRaises(refusal):
                self.desk.say("show c")

    def test_first_words(self):
        for word in ("", "x", "Web", "WEBS", "we", "web:", "webss", "shows", "sho", "drops", "tables", "map", "tree",
                     "pair", "turnings", "partings", "totals", "hues", "a", "ok", "none", "help", "1", "maps:",
                     "we bs", "total:"):
            for rest in ("", " a", " a b", ": hues", " a: hues", " a: one", " a: o", " "):
                self.check_no_line(word + rest)

    def test_too_few_or_too_many_words(self):
        for word in WITH_ONE_NAME:
            for rest in ("", " ", " a b", " a a", " a b a", " a: one", " a: ", " a:"):
                self.check_no_line(word + rest)
        for word in WITH_TWO_NAMES:
            for rest in ("", " ", " a", " a ", " a b a", " a b b b", " a: b", " a b: one", " a b: ", " a b:", " a, b",
                         " ab"):
                self.check_no_line(word + rest)
        for rest in (" a", " ", " webs", ":", ": ", ": a", " a: hues", " a b"):
            self.check_no_line("webs" + rest)
        for word, text in TEXTS.items():
            for rest in ("", " a", " ", f" a b: {text}", f": {text}", f" {text}", f" a: {text} {text}",
                         f" a: b: {text}", f" a: {text}: {text}", f" : {text}", f" a a: {text}"):
                self.check_no_line(word + rest)

    def test_names_that_are_none(self):
        for name in NO_NAMES:
            for word in WITH_ONE_NAME:
                self.check_no_line(f"{word} {name}")
            for word in WITH_TWO_NAMES:
                self.check_no_line(f"{word} {name} b")
                self.check_no_line(f"{word} a {name}")
            for word, text in TEXTS.items():
                self.check_no_line(f"{word} {name}: {text}")

    def test_names_of_twelve_letters_are_names(self):
        for word in WITH_ONE_NAME:
            self.check_refused(self.desk, f"{word} abcdefghijkl", NoName)
            self.check_no_line(f"{word} abcdefghijklm")

    def test_colons_left_out_or_put_elsewhere(self):
        for word, text in TEXTS.items():
            for rest in (f" a {text}", f" a :{text}", f" a : {text}", f" a:{text}", f" a:: {text}", f" a: : {text}",
                         f": a {text}", f": a: {text}", f" :a {text}", f" a; {text}", f" a {text}:", f" a: {text}:",
                         f" a: {text}: ", f" a:\t{text}", f" a:\n{text}", f"  a: {text}", f" a:  {text}"):
                self.check_no_line(word + rest)

    def test_texts_that_are_refused_when_they_are_read(self):
        for word in WITH_TEXT:
            for text in ("", " ", "x", "none", "near", "one one", "(one * one", "o(", "o()", "hues 0",
                         "hues -1; row 0", "hues 0 0; row 0 1; row 2 0", "hues 01; row 0", "hue -1", "2/4 of one",
                         "1/1 of tie", "-1", "0 1", "hues" + " 0" * 9 + ("; row" + " 0" * 9) * 9,
                         "near " * 20 + "one", "turned " * 20 + "tie", "o(" * 20 + "o" + ")" * 20, "hue " + "9" * 61,
                         "9" * 61, "one\n", "tie ", " o", "hues;", "%"):
                self.check_no_line(f"{word} a: {text}")

    def test_texts_of_another_line(self):
        for word in WITH_TEXT:
            for other in WITH_TEXT:
                if word != other:
                    self.check_no_line(f"{word} a: {TEXTS[other]}")

    def test_numbers_that_are_none(self):
        for number in NO_NUMBERS:
            for line in (f"web a: hues 0; row {number}", f"total a: hue {number}", f"table a: {number} of tie",
                         f"maps a: {number}"):
                self.check_no_line(line)

    def test_blanks(self):
        for line in LINES:
            self.check_no_line(" " + line)
            self.check_no_line(line + " ")
            for place, sign in enumerate(line):
                if sign == " ":
                    for changed in ("  ", "\t", "\n", "\u00a0"):
                        self.check_no_line(line[:place] + changed + line[place + 1:])
            for sign in ("\n", "\t", "\r", "\x00", "\u2003"):
                self.check_no_line(line + sign)
                self.check_no_line(sign + line)

    def test_blanks_left_out(self):
        for line in LINES:
            for place, sign in enumerate(line):
                if sign == " ":
                    self.check_no_line(line[:place] + line[place + 1:])

    def test_empty_and_very_long_lines(self):
        for line in ("", " ", "  ", "\n", ":", ": ", " " * 4000, "x" * 4000, "webs " * 800, "show " + "a" * 3995,
                     ": " * 2000, "total a: " + "(" * 3990, "maps a: " + "o(" * 1990, "web a: hues" + " 0" * 1990):
            self.check_no_line(line)

    def test_no_line_ahead_of_no_name(self):
        for line in ("show c d", "show C", "drop c ", "trees c", "trees c D", "trees C c", "trees c c c",
                     "trees  c c", "pairs c", "turning c d e", "total c: x", "total c: tie", "total c",
                     "table c: one", "maps c: ()", "maps c:o", "parting c:", "web c: hues 0", "total c: one ",
                     "trees a cccccccccccccc", "trees c a "):
            self.check_no_line(line)

    def test_names_that_no_web_has(self):
        for line in ("drop c", "show c", "parting c", "total c: one", "table c: tie", "maps c: o", "trees a c",
                     "trees c a", "trees c c", "trees c d", "pairs a c", "pairs c a", "turning a c", "turning c b",
                     "show aa", "show ab", "drop abcdefghijkl", "show webs", "show none"):
            self.check_refused(self.desk, line, NoName)
            self.say(self.desk, "webs", "a b")
            self.say(self.desk, "show a", PATH_TEXT)
            self.check_refused(Desk(), line, NoName)
        for line in LINES[1:]:
            if line != "webs":
                self.check_refused(Desk(), line, NoName)

    def test_a_name_that_begins_another(self):
        desk = desk_with(abc=PATH)
        for name in ("a", "ab", "abcd", "bc", "c", "cba"):
            self.check_refused(desk, f"show {name}", NoName)
            self.check_refused(desk, f"drop {name}", NoName)
            self.check_refused(desk, f"trees abc {name}", NoName)
            self.check_refused(desk, f"trees {name} abc", NoName)

    def test_a_refused_web_does_not_stand_for_the_old_one(self):
        for text in ("hues 0", "hues -1; row 0", "hues 0 0; row 0 1; row 2 0", "", "hues 0; row 0 ", "one"):
            self.check_no_line(f"web a: {text}")
            self.check_no_line(f"web c: {text}")
            self.check_refused(self.desk, "show c", NoName)

    def test_lines_with_one_sign_changed(self):
        chance = Random(347)
        for line in LINES:
            changed_lines = list(changed_texts(line))
            for changed in chance.sample(changed_lines, min(150, len(changed_lines))):
                self.check_told_or_refused(changed)

    def check_told_or_refused(self, line):
        """Told where its first words have the form of a line, or refused by one of the two names."""
        desk = desk_with(a=PATH, b=ring(3), c=TWO_HUES)
        try:
            told = desk.say(line)
        except KinError as refusal:
            self.assertIn(type(refusal), (NoLine, NoName))
            self.assertEqual(desk.say("webs"), "a b c")
            if type(refusal) is NoName:
                self.assertTrue(any(re.fullmatch(form, line) for form in FORMS[1:]), line)
        else:
            self.assertIs(type(told), str)
            self.assertTrue(any(re.fullmatch(form, line) for form in FORMS), line)
