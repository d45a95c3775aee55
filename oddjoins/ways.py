"""Least ways in plain webs, and their papers."""

from oddjoins.walks import other_end
from oddjoins.webs import by_turns, parts_of


# A dict from each place come to from place to (price, way) of a least way there.
def ways_from(web, place):
    found = {place: (0, ())}
    step = cheapest_step(web, found)
    while step is not None:
        found[step[1]] = (step[0], step[2])
        step = cheapest_step(web, found)
    return found


# The nearest place not found yet, as (price, place, way); None where there is none.
def cheapest_step(web, found):
    steps = []
    for number, tie in enumerate(web[1]):
        if (tie[0] in found) != (tie[1] in found):
            near = tie[0] if tie[0] in found else tie[1]
            steps.append((found[near][0] + tie[2], other_end(tie, near), by_turns(found[near][1], (number,))))
    return min(steps, default=None)


def way_between(web, one, other):
    found = ways_from(web, one)
    return found[other][1] if other in found else None


def heights_from(web, place):
    found = ways_from(web, place)
    return tuple([found[other][0] if other in found else None for other in range(web[0])])


def way_paper(web, one, other):
    some = way_between(web, one, other)
    if some is None:
        return ("none", [part for part in parts_of(web) if one in part][0])
    # Places that aren't come to have ties among themselves alone: any one height does for all of them.
    return ("way", some, tuple([0 if height is None else height for height in heights_from(web, one)]))
