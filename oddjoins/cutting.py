"""Sides of the greatest weight: by going through all, and of flat webs with papers."""

from oddjoins.cutchecker import weight_of
from oddjoins.errors import NoTurns
from oddjoins.facing import is_flat
from oddjoins.outsides import odd_faces, outside_of
from oddjoins.pairing import all_sides
from oddjoins.rings import ways_home
from oddjoins.sharing import join_paper
from oddjoins.webs import all_ties, by_turns, cut_of


def most_cut(web):
    best = max([(weight_of(web, side), side) for side in all_sides(web)])
    return (best[1], best[0])


def cut_paper(web, turns):
    if not is_flat(web, turns):
        raise NoTurns(-1)
    outside = outside_of(web, turns)
    # What a cut lacks is a join in the outside for the odd faces, and sides of faces are even sets of ties.
    paper = join_paper(outside[0], odd_faces(web, turns))
    side = side_by(web, by_turns(all_ties(web), ties_within(outside, paper[1])))
    rows = tuple([(ties_within(outside, cut_of(outside[0], row[0])), row[1]) for row in paper[3]])
    return ("cut", side, paper[2], rows)


# Ties of the outside as ties of the web.
def ties_within(outside, some):
    return tuple([outside[1][number] for number in some])


# The side whose cut is some, which has to be a cut: a place is in it where an odd count of its way home is in some.
def side_by(web, some):
    ways = ways_home(web)
    return tuple([place for place in range(web[0]) if len([tie for tie in ways[place] if tie in some]) % 2 == 1])
