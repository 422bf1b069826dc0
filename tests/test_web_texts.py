import copy
import re
import unittest
from random import Random

from evenkin.errors import KinError, NoText
from evenkin.web_texts import read_web, show_web
from evenkin.webs import look_at_web, side_by_side
from helpers import (CUBE, EIGHT, LARGE, LARGE_TWO, NO_NUMBERS, NO_PLACES, NUMBER, ONE_PLACE, PATH, SIXTY, THREE, TWO,
                     all_webs, changed_texts, check_own, check_refused, is_whole, ring, scaled, some_webs, web_of)

SIXTY_FIGURES = "9" * 60
TEXTS = {
    "hues": NO_PLACES,
    "hues 0; row 0": ONE_PLACE,
    "hues 7; row -3": ([7], [[-3]]),
    "hues 0 1; row 2 -3; row -3 5": TWO,
    "hues 0 0 0; row 0 1 0; row 1 0 1; row 0 1 0": PATH,
    "hues 0 1 0; row 2 -3 0; row -3 0 5; row 0 5 7": THREE,
    f"hues {SIXTY_FIGURES}; row -{SIXTY_FIGURES}": ([SIXTY], [[-SIXTY]]),
    f"hues 5 5; row {SIXTY_FIGURES} -{SIXTY_FIGURES}; row -{SIXTY_FIGURES} {SIXTY_FIGURES[1:]}8": LARGE,
    "hues 0 0 0 0 0 0 0 0; row 0 1 1 0 1 0 0 0; row 1 0 0 1 0 1 0 0; row 1 0 0 1 0 0 1 0; row 0 1 1 0 0 0 0 1; "
    "row 1 0 0 0 0 1 1 0; row 0 1 0 0 1 0 0 1; row 0 0 1 0 1 0 0 1; row 0 0 0 1 0 1 1 0": CUBE,
}
LARGEST = ([SIXTY] * 8, [[-SIXTY] * 8 for u in range(8)])
WEBS = list(TEXTS.values()) + [EIGHT, LARGE_TWO, web_of(8), ring(3, 5), scaled(CUBE, -SIXTY), LARGEST]


def text_there(web):
    """Point 23 word by word."""
    hues, rows = web
    if not hues:
        return "hues"
    text = "hues " + " ".join(str(hue) for hue in hues)
    for row in rows:
        text += "; row " + " ".join(str(weight) for weight in row)
    return text


def web_there(text):
    """The web of a text, or None where it is refused, by points 4 and 23."""
    if not re.fullmatch(rf"hues(?: {NUMBER})*(?:; row(?: {NUMBER})+)*", text):
        return None
    hues, *rows = [[int(word) for word in part.split(" ")[1:]] for part in text.split("; ")]
    size = len(hues)
    right = size <= 8 and len(rows) == size and all(len(row) == size for row in rows) and all(hue >= 0 for hue in hues)
    if not right or any(rows[u][v] != rows[v][u] for u in range(size) for v in range(size)):
        return None
    return (hues, rows)


class ShowWeb(unittest.TestCase):
    def test_texts(self):
        for text, web in TEXTS.items():
            self.assertEqual(show_web(web), text)

    def test_any_web(self):
        webs = list(all_webs(2, (0, 12), (-1, 0, 30))) + list(some_webs(8, (0, SIXTY), (-SIXTY, 0, 10), 20, 311))
        for web in WEBS + webs:
            self.assertEqual(show_web(web), text_there(web))

    def test_webs_beside_one_another(self):
        web = side_by_side(CUBE, EIGHT)
        self.assertEqual(show_web(web), text_there(web))

    def test_numbers_of_more_figures(self):
        self.assertEqual(show_web(([10 ** 99], [[-10 ** 99]])), "hues 1" + "0" * 99 + "; row -1" + "0" * 99)


class ReadWeb(unittest.TestCase):
    def check_read(self, text, web):
        told = read_web(text)
        self.assertIs(type(told), tuple)
        self.assertEqual([type(part) for part in told], [list, list])
        self.assertEqual(told, web)
        self.assertIsNone(look_at_web(told))
        for row in told[1]:
            self.assertIs(type(row), list)
        self.assertTrue(all(is_whole(number) for row in [told[0]] + told[1] for number in row))

    def check_refused(self, text):
        check_refused(self, read_web, text, NoText)

    def check_any(self, text):
        web = web_there(text)
        if web is None:
            self.check_refused(text)
        else:
            self.check_read(text, web)
        return web is not None

    def test_texts(self):
        for text, web in TEXTS.items():
            self.check_read(text, web)

    def test_what_is_shown_is_read_as_the_same_web(self):
        webs = list(all_webs(2, (0, 12), (-1, 0, 30))) + list(some_webs(8, (0, SIXTY), (-SIXTY, 0, 10), 20, 312))
        for web in WEBS + webs:
            self.check_read(show_web(web), web)

    def test_numbers_of_one_to_sixty_figures(self):
        for figures in range(1, 61):
            number = int("7" * figures)
            self.check_read(f"hues {number}; row -{number}", ([number], [[-number]]))
        self.check_read("hues 1" + "0" * 59 + "; row -1" + "0" * 59, ([10 ** 59], [[-10 ** 59]]))

    def test_a_refusal_is_a_kin_error_and_a_value_error(self):
        for refusal in (NoText, KinError, ValueError):
            with self.assertRaises(refusal):
                read_web("")

    def test_more_than_eight_places(self):
        for size in (9, 10, 16, 300):
            self.check_refused(text_there(([0] * size, [[0] * size for u in range(size)])))
        self.check_refused("hues 0 0 0 0 0 0 0 0 0")
        self.check_refused(text_there(side_by_side(CUBE, ONE_PLACE)))

    def test_numbers_that_are_none(self):
        for number in NO_NUMBERS:
            self.check_refused(f"hues {number}; row 0")
            self.check_refused(f"hues 0; row {number}")
            self.check_refused(f"hues 0 1; row 2 {number}; row {number} 5")
            self.check_refused(f"hues 0 {number}; row 2 3; row 3 5")
            self.check_refused(f"hues 0 1; row 2 3; row 3 {number}")

    def test_hues_below_nought(self):
        for number in ("-1", "-7", "-" + SIXTY_FIGURES):
            self.check_refused(f"hues {number}; row 0")
            self.check_refused(f"hues 0 {number}; row 2 -3; row -3 5")

    def test_rows_too_few_or_too_many_or_of_another_length(self):
        for text in ("hues 0", "hues 0 1", "hues 0 1; row 2 -3", "hues; row", "hues; row 0", "hues; row ",
                     "hues 0; row", "hues 0; row 0; row 0", "hues 0; row 0 0", "hues 0; row 0; row",
                     "hues 0 1; row 2; row -3 5", "hues 0 1; row 2 -3; row -3", "hues 0 1; row 2 -3 0; row -3 5",
                     "hues 0 1; row 2 -3; row -3 5 0", "hues 0 1; row 2 -3; row -3 5; row 0 0",
                     "hues 0 1; row 2 -3 0; row -3 5 0; row 0 0 0", "hues 0 1; row 2; row 5",
                     "hues 0 1; row 2 -3 -3 5", "hues 0; row 2 -3; row -3 5", "hues 0 1 0; row 2 -3; row -3 5",
                     "hues 0 1; row; row"):
            self.check_refused(text)

    def test_weights_that_are_others_turned_round(self):
        for text in ("hues 0 1; row 2 -3; row 3 5", "hues 0 1; row 2 1; row 0 5", "hues 0 0; row 0 1; row -1 0",
                     "hues 0 1 0; row 2 -3 1; row -3 0 5; row 0 5 7", "hues 0 1 0; row 2 -3 0; row -3 0 5; row 0 4 7",
                     f"hues 0 0; row 0 {SIXTY}; row {SIXTY - 1} 0"):
            self.check_refused(text)

    def test_blanks_too_many_or_too_few(self):
        for text in (" hues", "hues ", " hues 0; row 0", "hues  0; row 0", "hues 0 ; row 0", "hues 0;  row 0",
                     "hues 0;row 0", "hues 0; row  0", "hues 0; row 0 ", "hues0; row 0", "hues 0; row0", "hues 0 row 0",
                     "hues 01; row 2 -3; row -3 5", "hues 0  1; row 2 -3; row -3 5", "hues 0 1; row 2  -3; row -3 5",
                     "hues 0 1; row 2-3; row -3 5", "hues 0 1; row 2 - 3; row -3 5", "hues 0 1; row 2 -3;row -3 5",
                     "hues 0 1; row 2 -3 ; row -3 5", "hues 0 1; row 2 -3; row -3 5 "):
            self.check_refused(text)

    def test_other_words(self):
        for text in ("", " ", ";", "; ", "0", "web", "hue", "hue 0; row 0", "Hues 0; row 0", "HUES", "row 0", "row",
                     "row 0; hues 0", "hues 0; hues 0", "hues 0; row 0;", "hues 0; row 0; ", "hues;", "hues; ", ";hues",
                     "hues 0; Row 0", "hues 0; rows 0", "hues 0; ro 0", "hues 0; 0", "hues 0, row 0", "hues 0: row 0",
                     "hues hues", "hues 0; row 0 hues 0; row 0", "hues x; row 0", "hues 0; row one", "hues o; row 0",
                     "hues 0; row 1/2", "hues None; row 0", "hues []; row []", "hueshues", "hues 0; row 0x"):
            self.check_refused(text)

    def test_signs_that_no_text_has(self):
        for sign in ("%", "\t", "\n", "\r", "\x00", "\x7f", "\u00a0", "\u00e4", "\u2003", "\u0663", "\u2212"):
            for text in ("hues", "hues 0; row 0", "hues 0 1; row 2 -3; row -3 5"):
                for changed in (text + sign, sign + text, text.replace(" ", sign), text.replace("0", sign),
                                text.replace(" ", sign, 1), text.replace("-", sign)):
                    if changed != text:
                        self.check_refused(changed)

    def test_texts_with_one_sign_changed(self):
        found = []
        for text in ("hues", "hues 0; row 0", "hues 7; row -3", "hues 0 1; row 2 -3; row -3 5"):
            found += [self.check_any(changed) for changed in changed_texts(text)]
        self.assertEqual(set(found), {True, False})

    def test_texts_with_several_signs_changed(self):
        chance = Random(313)
        for turn in range(1500):
            text = chance.choice(list(TEXTS)[:6])
            for change in range(chance.randint(1, 4)):
                place = chance.randrange(len(text) + 1)
                put = chance.choice((" ", ";", "; ", "row", "row ", "hues", "0", "1", "-", "; row 0", " 0", ""))
                text = text[:place] + put + text[place + chance.randint(0, 3):]
            self.check_any(text)

    def test_very_long_texts(self):
        for text in ("hues" + " 0" * 1998, "hues" + "; row" * 600, " " * 4000, "hues " + "9" * 3995, "row " * 1000):
            self.check_refused(text)
        self.assertGreater(len(text_there(LARGEST)), 4000)
        self.check_read(text_there(LARGEST), LARGEST)


class WhatIsHandedInAndTold(unittest.TestCase):
    def test_own(self):
        for web in WEBS:
            check_own(self, show_web, [copy.deepcopy(web)])
            check_own(self, read_web, [text_there(web)])

    def test_a_web_changed_behind_its_text(self):
        web = copy.deepcopy(TWO)
        text = show_web(web)
        web[1][0][0] = 99
        self.assertEqual(text, "hues 0 1; row 2 -3; row -3 5")
        self.assertEqual(show_web(web), "hues 0 1; row 99 -3; row -3 5")
