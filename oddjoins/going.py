"""Going over ties, each as often as told: how often and at what price, and rows that go just so often."""

from oddjoins.walks import other_end
from oddjoins.webs import by_turns, odds_of, parts_of, ties_at


def gone_counts(web, row):
    return tuple([row.count(number) for number in range(len(web[1]))])


def row_price(web, row):
    return sum([web[1][number][2] for number in row])


# For each tie how often it is in row beyond the once that a needed tie has to be.
def times_beyond(web, needed, row):
    return tuple([count - (1 if number in needed else 0) for number, count in enumerate(gone_counts(web, row))])


def gone_ties(counts):
    return tuple([number for number, count in enumerate(counts) if count > 0])


# The places that have to be come to: these places, and the ends of the ties of some.
def places_due(web, some, places):
    due = list(places)
    for number in some:
        due.extend(web[1][number][:2])
    return tuple(sorted(set(due)))


# The places that hang together with place by ties of some alone.
def side_around(web, some, place):
    only = (web[0], tuple([web[1][number] for number in some]))
    return [part for part in parts_of(only) if place in part][0]


# A side that some of places are in and some are not, and that no tie of some leaves; None where there is none.
def side_apart(web, some, places):
    side = side_around(web, some, places[0])
    return None if all([place in side for place in places]) else side


# The counts without those of ties that don't hang together with place.
def counts_around(web, counts, place):
    side = side_around(web, gone_ties(counts), place)
    return tuple([count if web[1][number][0] in side else 0 for number, count in enumerate(counts)])


def walk_over(web, counts, one, other):
    odd = tuple([number for number, count in enumerate(counts) if count % 2 == 1])
    odds = by_turns(odds_of(web, odd), by_turns((one,), (other,)))
    if odds != ():
        return ("odds", odds[0])
    return apart_or_walk(web, counts, (one, other), steps_both_ways(web))


# Of counts that come out at each place: a side that shows them apart, or a row along steps from the first of places to
# the last.
def apart_or_walk(web, counts, places, steps):
    gone = gone_ties(counts)
    apart = side_apart(web, gone, places_due(web, gone, places))
    if apart is not None:
        return ("apart", apart)
    return ("walk", row_over(steps, counts, places[0]))


# For each place its steps: (a tie's number, the place to which it leads).
def steps_both_ways(web):
    return [steps_at(web, place) for place in range(web[0])]


def steps_at(web, place):
    return [(number, other_end(web[1][number], place)) for number in ties_at(web, place)]


# A row of just these counts from start, along steps; there has to be one.
def row_over(steps, counts, start):
    left = list(counts)
    trail = [(None, start)]
    row = []
    # Where the trail can't go on, its last step is the last of all that aren't in row yet: so row grows from its end.
    while len(trail) > 0:
        onward = [step for step in steps[trail[-1][1]] if left[step[0]] > 0]
        if len(onward) > 0:
            left[onward[0][0]] -= 1
            trail.append(onward[0])
        else:
            row.append(trail.pop()[0])
    # What came last, and would be the first, is None, which stands for the step to start.
    return tuple(reversed(row[:-1]))
