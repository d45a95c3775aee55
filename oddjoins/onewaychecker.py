"""The checker of one-way papers: tours that are least, or sides that show why there is none. It seeks nothing."""

from oddjoins.errors import NoPaper, NoWalk, refuse_some
from oddjoins.going import places_due, times_beyond
from oddjoins.kinds import is_tuple_of
from oddjoins.linechecker import is_row_of_ties, is_side_kind, lets_loose, refuse_end
from oddjoins.oneways import led_back, oneway_walked
from oddjoins.waychecker import is_heights


def is_tour_kind(web, thing):
    if not is_tuple_of(thing, 3) or thing[0] != "tour":
        return False
    return is_row_of_ties(web, thing[1]) and is_heights(web, thing[2])


def lets_oneway(web, needed, start, thing):
    due = places_due(web, needed, (start,))
    if is_tour_kind(web, thing):
        refuse_oneway_walk(web, start, thing[1])
        return lets_heights(web, times_beyond(web, needed, thing[1]), thing[2])
    if is_side_kind(web, "stuck", thing):
        return lets_stuck(web, due, start, thing[1])
    if is_side_kind(web, "shut", thing):
        # What can't be come to is what can't be left with each tie led the other way.
        return lets_stuck(led_back(web), due, start, thing[1])
    if is_side_kind(web, "loose", thing):
        return lets_loose(web, needed, due, thing[1])
    raise NoPaper("shape", 0)


def refuse_oneway_walk(web, start, row):
    try:
        end = oneway_walked(web, start, row)
    except NoWalk as refused:
        raise NoPaper("walk", refused.number) from None
    refuse_end(end, start, row)


# Beyond tells for each tie how often it is gone beyond what is needed. What any tour goes beyond begins and ends where
# this does, so the heights rise by as much along it: where no rise is above the price, and here each is the price,
# none is cheaper.
def lets_heights(web, beyond, heights):
    refuse_some("needed", [number for number, more in enumerate(beyond) if more < 0])
    refuse_some("height", [number for number, more in enumerate(beyond) if is_steep(web[1][number], more, heights)])
    return True


# Whether the heights rise by more than the tie's price, or by less though it is gone beyond.
def is_steep(tie, more, heights):
    rise = heights[tie[1]] - heights[tie[0]]
    return rise > tie[2] or (more > 0 and rise < tie[2])


def lets_stuck(web, due, start, side):
    if start in side:
        raise NoPaper("start", 0)
    if not any([place in side for place in due]):
        raise NoPaper("places", 0)
    refuse_some("cut", [number for number, tie in enumerate(web[1]) if tie[0] in side and tie[1] not in side])
    return True
