"""The checker of papers of joins. It seeks nothing: what it lets by is so, whoever wrote it."""

from oddjoins.errors import NoPaper, refuse_some
from oddjoins.kinds import is_tuple_of, is_whole_from
from oddjoins.turning import below, turned, turned_told
from oddjoins.webs import by_turns, cut_of, is_odd_for, is_set, is_side, odds_of, price_of


def is_row_kind(web, thing):
    return is_tuple_of(thing, 2) and is_side(web, thing[0]) and is_whole_from(thing[1], 1)


def is_bound_kind(web, thing):
    if not is_tuple_of(thing, 2) or not is_whole_from(thing[0], 1) or not isinstance(thing[1], tuple):
        return False
    return all([is_row_kind(web, row) for row in thing[1]])


def bound_by(web, told, thing):
    if not is_bound_kind(web, thing):
        raise NoPaper("shape", 0)
    bottom = thing[0]
    rows = thing[1]
    refuse_some("side", even_rows(turned_told(web, told), rows))
    refuse_some("tie", heavy_ties(turned(web), bottom, cut_rows(web, rows)))
    return (share_sum(rows) + bottom * price_of(web, below(web)), bottom)


def share_sum(rows):
    return sum([row[1] for row in rows])


# Which rows, by where they stand, have a side that isn't odd for told.
def even_rows(told, rows):
    return [index for index, row in enumerate(rows) if not is_odd_for(told, row[0])]


# The rows with their sides' cuts in the place of the sides.
def cut_rows(web, rows):
    return [(cut_of(web, row[0]), row[1]) for row in rows]


# The ties on which the shares of rows, each a set and a share, come to more than bottom times the price.
def heavy_ties(web, bottom, rows):
    loads = [0] * len(web[1])
    for row in rows:
        for number in row[0]:
            loads[number] += row[1]
    return [number for number, tie in enumerate(web[1]) if loads[number] > bottom * tie[2]]


# Refuses what is no join for told, by the least place at which it isn't.
def refuse_odds(web, told, join):
    refuse_some("odds", by_turns(told, odds_of(web, join)))


def is_least_kind(web, thing):
    if not is_tuple_of(thing, 4) or thing[0] != "least":
        return False
    return is_set(web, thing[1]) and is_bound_kind(web, thing[2:])


def lets_join(web, told, thing):
    if is_least_kind(web, thing):
        return lets_least(web, told, thing[1], thing[2:])
    if is_tuple_of(thing, 2) and thing[0] == "none" and is_side(web, thing[1]):
        return lets_none(web, told, thing[1])
    raise NoPaper("shape", 0)


def lets_least(web, told, join, bound):
    refuse_odds(web, told, join)
    shown = bound_by(web, told, bound)
    if shown[0] != bound[0] * price_of(web, join):
        raise NoPaper("sum", 0)
    return True


def lets_none(web, told, side):
    refuse_some("tie", cut_of(web, side))
    if not is_odd_for(told, side):
        raise NoPaper("side", 0)
    return True
