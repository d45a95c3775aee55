"""Papers of joins told: shares on odd sides that come to just the least price, in halves.

In the turned web each place has a height above the least place of its part: by how much the least join gets dearer
when both are turned in the told places. Poured in from below, the web fills: a place is wet from twice its height on,
and two wet ends of a tie run together from their heights and its price, added, on. Each pool that hasn't run together
with the least place of its part is an odd side, with a share of as much as the level rises while it stands so. Along
a tie no more than twice its price is filled from both ends, and one tie of a least join leaves each such pool, so
that twice the least price comes together.
"""

from oddjoins.pairing import all_heights, least_join, pairing_price
from oddjoins.turning import turned, turned_told
from oddjoins.webs import by_turns, is_odd_for, parts_of

HALVES = 2


def join_paper(web, told):
    join = least_join(web, told)
    if join is None:
        return ("none", [part for part in parts_of(web) if is_odd_for(told, part)][0])
    return ("least", join, HALVES, share_rows(turned(web), turned_told(web, told)))


# Of a plain web and told places for which there is a join: rows that show twice its least price.
def share_rows(web, told):
    heights = join_heights(web, told)
    meets = [heights[tie[0]] + heights[tie[1]] + tie[2] for tie in web[1]]
    levels = sorted(set([HALVES * height for height in heights] + meets))
    shares = {}
    for low, high in zip(levels, levels[1:]):
        for side in pools_at(web, heights, meets, low):
            shares[side] = shares.get(side, 0) + high - low
    return tuple(shares.items())


# For each place by how much the least join gets dearer by turning it and the least place of its part.
def join_heights(web, told):
    table = all_heights(web)
    known = {(): 0}
    level = pairing_price(table, told, known)
    heights = [0] * web[0]
    for part in parts_of(web):
        for place in part[1:]:
            heights[place] = pairing_price(table, by_turns(told, (part[0], place)), known) - level
    return heights


# The sides that hang together at level, without those of the parts' least places.
def pools_at(web, heights, meets, level):
    run = (web[0], tuple([tie for number, tie in enumerate(web[1]) if meets[number] <= level]))
    leasts = [part[0] for part in parts_of(web)]
    wet = [pool for pool in parts_of(run) if HALVES * heights[pool[0]] <= level]
    return [pool for pool in wet if not any([least in pool for least in leasts])]
