"""The checker of line papers: lines over needed ties that are least, or sides that show why. It seeks nothing."""

from oddjoins.errors import NoPaper, NoWalk, refuse_some
from oddjoins.going import places_due, times_beyond
from oddjoins.joinchecker import cut_rows, even_rows, heavy_ties, is_bound_kind, share_sum
from oddjoins.kinds import is_tuple_of
from oddjoins.walks import walked
from oddjoins.webs import by_turns, cut_of, is_side, is_tie_number, odds_of

MOST_STEPS = 400


# The places at which what a line goes over beyond needed ties has to end an odd number of times.
def line_told(web, needed, one, other):
    return by_turns(odds_of(web, needed), by_turns((one,), (other,)))


def is_row_of_ties(web, thing):
    if not isinstance(thing, tuple) or len(thing) > MOST_STEPS:
        return False
    return all([is_tie_number(web, number) for number in thing])


def is_line_kind(web, thing):
    if not is_tuple_of(thing, 4) or thing[0] != "line":
        return False
    return is_row_of_ties(web, thing[1]) and is_bound_kind(web, thing[2:])


def is_side_kind(web, word, thing):
    return is_tuple_of(thing, 2) and thing[0] == word and is_side(web, thing[1])


def lets_line(web, needed, one, other, thing):
    due = places_due(web, needed, (one, other))
    if is_line_kind(web, thing):
        refuse_walk(web, one, other, thing[1])
        refuse_counts(web, needed, thing[1])
        return lets_shares(web, needed, line_told(web, needed, one, other), thing)
    if is_side_kind(web, "apart", thing):
        refuse_some("cut", cut_of(web, thing[1]))
        return lets_parting(due, thing[1])
    if is_side_kind(web, "loose", thing):
        return lets_loose(web, needed, due, thing[1])
    raise NoPaper("shape", 0)


def refuse_walk(web, one, other, row):
    try:
        end = walked(web, one, row)
    except NoWalk as refused:
        raise NoPaper("walk", refused.number) from None
    refuse_end(end, other, row)


# Refuses a row that leads to another place than it has to.
def refuse_end(end, other, row):
    if end != other:
        raise NoPaper("walk", len(row))


def refuse_counts(web, needed, row):
    refuse_some("counts", [number for number, more in enumerate(times_beyond(web, needed, row)) if more not in (0, 1)])


# What is gone beyond the needed ties is a join for told, so shares on odd sides that come to its price show it least.
def lets_shares(web, needed, told, paper):
    bottom = paper[2]
    rows = paper[3]
    refuse_some("odd", even_rows(told, rows))
    refuse_some("shares", heavy_ties(web, bottom, cut_rows(web, rows)))
    beyond = times_beyond(web, needed, paper[1])
    if share_sum(rows) != bottom * sum([more * web[1][number][2] for number, more in enumerate(beyond)]):
        raise NoPaper("sum", 0)
    return True


def lets_loose(web, needed, due, side):
    if needed == ():
        raise NoPaper("needed", -1)
    refuse_some("needed", [number for number in cut_of(web, side) if number in needed])
    return lets_parting(due, side)


# Lets by a side that some of due are in and some are not.
def lets_parting(due, side):
    within = [place for place in due if place in side]
    if len(within) == 0 or len(within) == len(due):
        raise NoPaper("places", 0)
    return True
