"""Least joins, by pairing told places over least ways of the turned web."""

from oddjoins.turning import below, turned, turned_set, turned_told
from oddjoins.ways import heights_from, way_between
from oddjoins.webs import by_turns, price_of


def all_heights(web):
    return [heights_from(web, place) for place in range(web[0])]


# What the cheapest pairing of told comes to, None where there is none.
# Known holds the prices found so far, by told places; it begins as {(): 0} and is filled on the way.
def pairing_price(heights, told, known):
    if told not in known:
        offers = partner_offers(heights, told, known)
        known[told] = min(offers)[0] if len(offers) > 0 else None
    return known[told]


# For each partner that the first of told may have: (what the cheapest pairing comes to then, the partner).
def partner_offers(heights, told, known):
    first = told[0]
    offers = []
    for other in told[1:]:
        rest = pairing_price(heights, by_turns(told, (first, other)), known)
        if heights[first][other] is not None and rest is not None:
            offers.append((heights[first][other] + rest, other))
    return offers


def least_pairs(web, told):
    heights = all_heights(web)
    known = {(): 0}
    if pairing_price(heights, told, known) is None:
        return None
    pairs = []
    left = told
    while left != ():
        pair = (left[0], min(partner_offers(heights, left, known))[1])
        pairs.append(pair)
        left = by_turns(left, pair)
    return tuple(pairs)


def least_join(web, told):
    plain = turned(web)
    pairs = least_pairs(plain, turned_told(web, told))
    if pairs is None:
        return None
    join = ()
    for pair in pairs:
        join = by_turns(join, way_between(plain, pair[0], pair[1]))
    return turned_set(web, join)


def all_sides(web):
    sides = [()]
    for place in range(web[0]):
        sides = sides + [side + (place,) for side in sides]
    return sorted(sides)


def least_prices(web):
    heights = all_heights(turned(web))
    known = {(): 0}
    base = price_of(web, below(web))
    prices = {}
    for told in all_sides(web):
        price = pairing_price(heights, turned_told(web, told), known)
        if price is not None:
            prices[told] = base + price
    return prices
