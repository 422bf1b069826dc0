"""Readers: what stands in a text from its first sign to its last, refused with NoText where it is not as asked."""

from evenkin.errors import NoText
from evenkin.fractions import greatest_divisor

FIGURES = "0123456789"
MOST_FIGURES = 60


class Reader:
    def __init__(self, text):
        self.text = text
        self.place = 0

    def refuse(self, wrong):
        place = self.place
        raise NoText(f"no text: {wrong} at sign {place}")

    def takes(self, word):
        if not self.text.startswith(word, self.place):
            return False
        self.place = self.place + len(word)
        return True

    def must_take(self, word):
        if not self.takes(word):
            self.refuse(f"no {word!r}")

    def must_end(self):
        if self.place < len(self.text):
            self.refuse("more than a whole text")

    def figures(self):
        end = self.place
        while end < len(self.text) and self.text[end] in FIGURES:
            end += 1
        return self.text[self.place:end]

    def number_from_nought(self):
        figures = self.figures()
        if figures == "" or len(figures) > MOST_FIGURES or (figures[0] == "0" and figures != "0"):
            self.refuse("no number")
        self.place = self.place + len(figures)
        return int(figures)

    def number(self):
        if not self.takes("-"):
            return self.number_from_nought()
        number = self.number_from_nought()
        if number == 0:
            self.refuse("no number below 0")
        return -number

    def fraction(self):
        top = self.number()
        if not self.takes("/"):
            return (top, 1)
        bottom = self.number_from_nought()
        # A bottom of 1 is not written, and a divisor above 1 of both leaves no lowest terms.
        if bottom < 2 or greatest_divisor(top, bottom) != 1:
            self.refuse("no fraction in lowest terms")
        return (top, bottom)
