"""The texts of webs, shown and read."""

from evenkin.errors import NoText, NoWeb
from evenkin.number_texts import show_numbers
from evenkin.readers import Reader
from evenkin.webs import look_at_web

MOST_PLACES = 8


def show_web(web):
    if len(web[0]) == 0:
        return "hues"
    lines = ["hues " + show_numbers(web[0])] + ["row " + show_numbers(row) for row in web[1]]
    return "; ".join(lines)


def read_numbers(reader):
    numbers = []
    while reader.takes(" "):
        numbers.append(reader.number())
    return numbers


def read_rows(reader):
    rows = []
    while reader.takes("; "):
        reader.must_take("row")
        rows.append(read_numbers(reader))
    return rows


def read_web(text):
    reader = Reader(text)
    reader.must_take("hues")
    hues = read_numbers(reader)
    web = (hues, read_rows(reader))
    reader.must_end()
    if len(hues) > MOST_PLACES:
        raise NoText("no text: more places than a web has")
    try:
        look_at_web(web)
    except NoWeb as refusal:
        raise NoText("no text of a web") from refusal
    return web
