"""The checker of way papers, of plain webs. It seeks nothing: what it lets by is so, whoever wrote it."""

from oddjoins.errors import NoPaper, refuse_some
from oddjoins.kinds import is_tuple_of, is_whole
from oddjoins.webs import by_turns, cut_of, is_set, is_side, odds_of, price_of


def lets_way(web, one, other, thing):
    if is_way_kind(web, thing):
        return lets_least_way(web, one, other, thing[1], thing[2])
    if is_tuple_of(thing, 2) and thing[0] == "none" and is_side(web, thing[1]):
        return lets_no_way(web, one, other, thing[1])
    raise NoPaper("shape", -1)


def is_way_kind(web, thing):
    if not is_tuple_of(thing, 3) or thing[0] != "way":
        return False
    return is_set(web, thing[1]) and is_heights(web, thing[2])


def is_heights(web, thing):
    return is_tuple_of(thing, web[0]) and all([is_whole(height) for height in thing])


def lets_least_way(web, one, other, some, heights):
    if odds_of(web, some) != by_turns((one,), (other,)):
        raise NoPaper("odds", -1)
    refuse_some("tie", [number for number, tie in enumerate(web[1]) if abs(heights[tie[0]] - heights[tie[1]]) > tie[2]])
    if heights[other] - heights[one] != price_of(web, some):
        raise NoPaper("price", -1)
    return True


def lets_no_way(web, one, other, side):
    if one not in side or other in side:
        raise NoPaper("side", -1)
    refuse_some("tie", cut_of(web, side))
    return True
