"""One-way webs, whose ties are gone from their first place to their second alone."""

from oddjoins.errors import NoWalk
from oddjoins.going import apart_or_walk
from oddjoins.linechecker import MOST_STEPS
from oddjoins.webs import is_tie_kind, is_tie_number, is_web_kind

MOST_ONEWAY_PLACES = 9
MOST_ONEWAY_TIES = 16
MOST_ONEWAY_PRICE = 99


def is_oneway(thing):
    if not is_web_kind(thing, MOST_ONEWAY_PLACES, MOST_ONEWAY_TIES):
        return False
    return all([is_oneway_tie(thing[0], tie) for tie in thing[1]])


def is_oneway_tie(many, thing):
    if not is_tie_kind(thing) or min(thing) < 0:
        return False
    return max(thing[:2]) < many and thing[0] != thing[1] and thing[2] <= MOST_ONEWAY_PRICE


# The web with each tie led the other way.
def led_back(web):
    return (web[0], tuple([(goal, begin, price) for begin, goal, price in web[1]]))


def oneway_walked(web, start, row):
    if not isinstance(row, tuple) or len(row) > MOST_STEPS:
        raise NoWalk(0)
    place = start
    for index, thing in enumerate(row):
        if not is_tie_number(web, thing) or web[1][thing][0] != place:
            raise NoWalk(index)
        place = web[1][thing][1]
    return place


# For each place how much oftener ties lead to it than from it, each tie as often as its count.
def overhangs(web, counts):
    over = [0] * web[0]
    for number, tie in enumerate(web[1]):
        over[tie[0]] -= counts[number]
        over[tie[1]] += counts[number]
    return over


def oneway_over(web, counts, start):
    uneven = [place for place, over in enumerate(overhangs(web, counts)) if over != 0]
    if len(uneven) > 0:
        return ("uneven", uneven[0])
    return apart_or_walk(web, counts, (start,), steps_one_way(web))


# For each place its steps: (a tie's number, the place to which it leads).
def steps_one_way(web):
    return [steps_from(web, place) for place in range(web[0])]


def steps_from(web, place):
    return [(number, tie[1]) for number, tie in enumerate(web[1]) if tie[0] == place]
