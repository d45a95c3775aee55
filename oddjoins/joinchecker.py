"""The checker of papers of joins. It seeks nothing: what it lets by is so, whoever wrote it."""

from oddjoins.errors import NoPaper
from oddjoins.kinds import is_tuple_of, is_whole_from
from oddjoins.turning import below, turned, turned_told
from oddjoins.waychecker import refuse_cut
from oddjoins.webs import by_turns, cut_of, is_odd_for, is_set, is_side, odds_of, price_of


def is_row_kind(web, thing):
    return is_tuple_of(thing, 2) and is_side(web, thing[0]) and is_whole_from(thing[1], 1)


def is_bound_kind(web, thing):
    if not is_tuple_of(thing, 2) or not is_whole_from(thing[0], 1) or not isinstance(thing[1], tuple):
        return False
    return all([is_row_kind(web, row) for row in thing[1]])


def bound_by(web, told, thing):
    if not is_bound_kind(web, thing):
        raise NoPaper("shape", 0)
    bottom = thing[0]
    rows = thing[1]
    refuse_even_sides(turned_told(web, told), rows)
    refuse_heavy_ties(turned(web), bottom, rows)
    return (sum([row[1] for row in rows]) + bottom * price_of(web, below(web)), bottom)


def refuse_even_sides(told, rows):
    for index, row in enumerate(rows):
        if not is_odd_for(told, row[0]):
            raise NoPaper("side", index)


def refuse_heavy_ties(web, bottom, rows):
    loads = [0] * len(web[1])
    for row in rows:
        for number in cut_of(web, row[0]):
            loads[number] += row[1]
    for number, tie in enumerate(web[1]):
        if loads[number] > bottom * tie[2]:
            raise NoPaper("tie", number)


# Refuses what is no join for told, by the least place at which it isn't.
def refuse_odds(web, told, join):
    wrong = by_turns(told, odds_of(web, join))
    if wrong != ():
        raise NoPaper("odds", wrong[0])


def is_least_kind(web, thing):
    if not is_tuple_of(thing, 4) or thing[0] != "least":
        return False
    return is_set(web, thing[1]) and is_bound_kind(web, thing[2:])


def lets_join(web, told, thing):
    if is_least_kind(web, thing):
        return lets_least(web, told, thing[1], thing[2:])
    if is_tuple_of(thing, 2) and thing[0] == "none" and is_side(web, thing[1]):
        return lets_none(web, told, thing[1])
    raise NoPaper("shape", 0)


def lets_least(web, told, join, bound):
    refuse_odds(web, told, join)
    shown = bound_by(web, told, bound)
    if shown[0] != bound[0] * price_of(web, join):
        raise NoPaper("sum", 0)
    return True


def lets_none(web, told, side):
    refuse_cut(web, side)
    if not is_odd_for(told, side):
        raise NoPaper("side", 0)
    return True
