"""Turns of a web that is drawn, each place at its spot and each tie straight."""

from oddjoins.errors import NoTurns
from oddjoins.going import steps_at
from oddjoins.kinds import are_unlike


def drawn_turns(web, spots):
    for place in range(web[0]):
        if spots.count(spots[place]) > 1 or not are_unlike(list(end_ranks(web, spots, place).values())):
            raise NoTurns(place)
    return tuple([drawn_turn(web, spots, place) for place in range(web[0])])


# A dict from the places to which ties lead from place: how many of them come ahead, against the clock from the right
# on. Two with the same rank lie the same way.
def end_ranks(web, spots, place):
    ways = {}
    for step in steps_at(web, place):
        ways[step[1]] = way_of(spots[place], spots[step[1]])
    ranks = {}
    for end in ways:
        ranks[end] = len([other for other in ways if is_ahead(ways[other], ways[end])])
    return ranks


def way_of(spot, other):
    return (other[0] - spot[0], other[1] - spot[1])


# Ways to the right or upwards are in the first half of a turn against the clock, which begins at the right.
def half_of(way):
    return 0 if way[1] > 0 or (way[1] == 0 and way[0] > 0) else 1


def is_ahead(one, other):
    if half_of(one) != half_of(other):
        return half_of(one) < half_of(other)
    return one[0] * other[1] - one[1] * other[0] > 0


def drawn_turn(web, spots, place):
    ranks = end_ranks(web, spots, place)
    # Ties side by side come in one order when seen from one end, in the other from the other end.
    order = sorted([(ranks[end], number if place < end else -number, number) for number, end in steps_at(web, place)])
    turn = [entry[2] for entry in order]
    begin = turn.index(min(turn)) if len(turn) > 0 else 0
    return tuple(turn[begin:] + turn[:begin])
