"""Even sets as rings, and all even sets and joins of a web."""

from oddjoins.errors import TooMany
from oddjoins.walks import is_step, other_end
from oddjoins.webs import by_turns, odds_of, parts_of

# Each ring of a base doubles the sets: by ten of them there are 1,024.
MOST_BASE_RINGS = 10


def rings_of(web, even):
    rings = []
    left = list(even)
    while len(left) > 0:
        ring = ring_within(web, left)
        rings.append(ring)
        left = [number for number in left if number not in ring[1]]
    return tuple(rings)


# A ring of some of the ties left, which are an even set and not none.
def ring_within(web, left):
    places = [web[1][left[0]][0]]
    row = []
    # A place come to for the first time has a tie to go on by, as an even count of them ends there.
    while places[-1] not in places[:-1]:
        step = [number for number in left if number not in row and is_step(web, places[-1], number)][0]
        row.append(step)
        places.append(other_end(web[1][step], places[-1]))
    begin = places.index(places[-1])
    return (places[-1], tuple(row[begin:]))


# For each place a set of ties that leads from it to the least place of its part, all of one forest.
def ways_home(web):
    ways = {}
    for part in parts_of(web):
        ways[part[0]] = ()
    grown = True
    while grown:
        grown = False
        for number, tie in enumerate(web[1]):
            if (tie[0] in ways) != (tie[1] in ways):
                near = tie[0] if tie[0] in ways else tie[1]
                ways[other_end(tie, near)] = by_turns(ways[near], (number,))
                grown = True
    return ways


# The even sets that each tie outside the forest makes with the forest; all others come of these by turns.
def base_rings(web, ways):
    evens = [by_turns((number,), by_turns(ways[tie[0]], ways[tie[1]])) for number, tie in enumerate(web[1])]
    return [even for even in evens if even != ()]


# Some by turns with each even set that comes of base, rising.
def all_from(some, base):
    found = [some]
    for even in base:
        found = found + [by_turns(other, even) for other in found]
    return sorted(found)


def all_evens(web):
    return all_joins(web, ())


def all_joins(web, told):
    ways = ways_home(web)
    base = base_rings(web, ways)
    if len(base) > MOST_BASE_RINGS:
        raise TooMany("sets")
    join = ()
    for place in told:
        join = by_turns(join, ways[place])
    # Where some part is odd for told, its least place is left over or lacking.
    if odds_of(web, join) != told:
        return []
    return all_from(join, base)
