"""How joins for the same places differ: by rounds, each of which changes the price by its own."""

from oddjoins.rings import rings_of
from oddjoins.webs import by_turns, price_of


def change_by(web, join, some):
    return price_of(web, by_turns(join, some)) - price_of(web, join)


def difference(web, one, other):
    return rings_of(web, by_turns(one, other))
