"""The checker of cut papers: shares on odd rings that show a side's weight greatest. It seeks nothing."""

from oddjoins.errors import NoPaper, refuse_some
from oddjoins.joinchecker import heavy_ties, share_sum
from oddjoins.kinds import is_tuple_of, is_whole_from
from oddjoins.webs import all_ties, cut_of, is_set, is_side, odds_of, price_of

MOST_CUT_ROWS = 400


def weight_of(web, side):
    return price_of(web, cut_of(web, side))


# What the side's weight lacks of all prices.
def lack_of(web, side):
    return price_of(web, all_ties(web)) - weight_of(web, side)


def is_cut_row_kind(web, thing):
    return is_tuple_of(thing, 2) and is_set(web, thing[0]) and is_whole_from(thing[1], 1)


def are_cut_rows_kind(web, thing):
    if not isinstance(thing, tuple) or len(thing) > MOST_CUT_ROWS:
        return False
    return all([is_cut_row_kind(web, row) for row in thing])


def is_cut_kind(web, thing):
    if not is_tuple_of(thing, 4) or thing[0] != "cut" or not is_side(web, thing[1]):
        return False
    return is_whole_from(thing[2], 1) and are_cut_rows_kind(web, thing[3])


# A cut has an even count of ties of an even set, so one at least is lacking of an odd count of them.
def is_odd_even(web, some):
    return odds_of(web, some) == () and len(some) % 2 == 1


def lets_cut(web, thing):
    if not is_cut_kind(web, thing):
        raise NoPaper("shape", 0)
    bottom = thing[2]
    rows = thing[3]
    refuse_some("row", [index for index, row in enumerate(rows) if not is_odd_even(web, row[0])])
    refuse_some("tie", heavy_ties(web, bottom, rows))
    if share_sum(rows) != bottom * lack_of(web, thing[1]):
        raise NoPaper("sum", 0)
    return True
