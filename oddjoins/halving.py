"""Whether a side's cut has all ties above nought: such a side, or an odd closed walk that shows that there is none."""

from oddjoins.belowchecker import is_round
from oddjoins.cutchecker import lack_of
from oddjoins.cutting import side_by
from oddjoins.kinds import is_tuple_of
from oddjoins.linechecker import is_side_kind
from oddjoins.rests import rest_of
from oddjoins.rings import base_rings, rings_of, ways_home
from oddjoins.webs import all_ties


def halves_told(web):
    noughts = [number for number, tie in enumerate(web[1]) if tie[2] == 0]
    left = rest_of(web, noughts)
    odd = [even for even in base_rings(left[0], ways_home(left[0])) if len(even) % 2 == 1]
    if len(odd) == 0:
        return ("halves", side_by(left[0], all_ties(left[0])))
    # An even set of the base is one ring.
    ring = rings_of(left[0], odd[0])[0]
    return ("odd", ring[0], tuple([left[1][number] for number in ring[1]]))


def lets_halves(web, thing):
    if is_side_kind(web, "halves", thing):
        return lack_of(web, thing[1]) == 0
    if not is_tuple_of(thing, 3) or thing[0] != "odd" or not is_round(web, thing[1:]):
        return False
    return len(thing[2]) % 2 == 1 and all([web[1][number][2] > 0 for number in thing[2]])
