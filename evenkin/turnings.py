"""Turnings: how the places of a web are led to those of another, with like hues and weights, and their tables."""

from evenkin.fractions import fraction_of
from evenkin.grids import column_of
from evenkin.webs import picked


def led_on(web, other, begun):
    place = len(begun)
    weights = web[1][place][:place + 1]
    longer = []
    for place_there, hue_there in enumerate(other[0]):
        if hue_there == web[0][place] and place_there not in begun:
            turning = begun + [place_there]
            if picked(other[1][place_there], turning) == weights:
                longer.append(turning)
    return longer


def begun_turnings(web, other):
    return [[]] if len(web[0]) == len(other[0]) else []


def next_turning(web, other, waiting):
    # Those that wait are lists of the first places, the one to go on with last: so turnings are found in order.
    while waiting:
        begun = waiting.pop()
        if len(begun) == len(web[0]):
            return begun
        longer = led_on(web, other, begun)
        longer.reverse()
        waiting.extend(longer)
    return None


def all_turnings(web, other):
    waiting = begun_turnings(web, other)
    turnings = []
    turning = next_turning(web, other, waiting)
    while turning is not None:
        turnings.append(turning)
        turning = next_turning(web, other, waiting)
    return turnings


def first_turning(web, other):
    return next_turning(web, other, begun_turnings(web, other))


def shares_of_place(place_there, size):
    return [(1, 1) if place == place_there else (0, 1) for place in range(size)]


def table_of_turning(turning):
    return [shares_of_place(place_there, len(turning)) for place_there in turning]


def mean_shares(places_there, size):
    return [fraction_of(places_there.count(place), len(places_there)) for place in range(size)]


def mean_table(web):
    turnings = all_turnings(web, web)
    size = len(web[0])
    return [mean_shares(column_of(turnings, place), size) for place in range(size)]
