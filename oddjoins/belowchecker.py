"""The checker of below papers: rounds below nought, or shares that show that there is none. It seeks nothing."""

from oddjoins.errors import NoPaper
from oddjoins.joinchecker import lets_join
from oddjoins.kinds import are_unlike, is_tuple_of
from oddjoins.walks import places_round
from oddjoins.webs import price_of


def is_round(web, thing):
    places = places_round(web, thing)
    return places is not None and len(places) > 1 and are_unlike(thing[1])


def lets_below(web, thing):
    if is_tuple_of(thing, 3) and thing[0] == "ring":
        return lets_ring_below(web, thing[1:])
    if is_tuple_of(thing, 3) and thing[0] == "none":
        # No even set is below nought just where the one without ties is a least join for no places.
        return lets_join(web, (), ("least", (), thing[1], thing[2]))
    raise NoPaper("shape", 0)


def lets_ring_below(web, pair):
    if not is_round(web, pair):
        raise NoPaper("ring", 0)
    if price_of(web, pair[1]) >= 0:
        raise NoPaper("price", 0)
    return True
