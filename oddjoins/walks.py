"""Walks along ties, and rings."""

from oddjoins.errors import NoWalk
from oddjoins.kinds import are_unlike, is_tuple_of, is_whole, odd_ones
from oddjoins.webs import is_tie_number


def other_end(tie, place):
    return tie[1] if tie[0] == place else tie[0]


# Whether thing is the number of a tie that ends at place.
def is_step(web, place, thing):
    return is_tie_number(web, thing) and place in web[1][thing][:2]


# All places where one is on the walk, one behind the other, start first; refused as walked refuses.
def places_walked(web, start, row):
    if not isinstance(row, tuple):
        raise NoWalk(-1)
    places = [start]
    for index, thing in enumerate(row):
        if not is_step(web, places[-1], thing):
            raise NoWalk(index)
        places.append(other_end(web[1][thing], places[-1]))
    return places


def walked(web, start, row):
    return places_walked(web, start, row)[-1]


# All places of the closed walk that thing, a pair of a start and a row, is; None where it is none.
def places_round(web, thing):
    # A start that is no place has no tie to go by: the walk refuses it, unless its row has no ties.
    if not is_tuple_of(thing, 2) or not is_whole(thing[0]):
        return None
    try:
        places = places_walked(web, thing[0], thing[1])
    except NoWalk:
        return None
    return places if places[-1] == places[0] else None


def is_ring(web, thing):
    places = places_round(web, thing)
    # The start stands in the places behind the first once, at the end, unless one comes through it between.
    return places is not None and len(places) > 2 and are_unlike(thing[1]) and are_unlike(places[1:])


def odd_times(row):
    return odd_ones(row)
