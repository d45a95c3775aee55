"""One-way papers told: a least tour over needed ties, or a side that shows why there is none, or none is shown.

What a tour goes beyond the needed ties is a flow: for each tie how often. It begins with none, and from a place to
which needed ties lead oftener than from it, it is led to one of the other sort along the cheapest trail, once and
again. On a trail more may go along a tie, or less where some goes already. So it stays the cheapest for what it
levels, and no trail below nought comes back to its start: each place has a least price at which it is come to from
anywhere, its height.
"""

from oddjoins.going import counts_around, places_due, side_apart
from oddjoins.oneways import led_back, oneway_over, overhangs


def oneway_paper(web, needed, start):
    due = places_due(web, needed, (start,))
    stuck = side_without(web, due, start)
    if stuck is not None:
        return ("stuck", stuck)
    shut = side_without(led_back(web), due, start)
    if shut is not None:
        return ("shut", shut)
    loose = side_apart(web, needed, due)
    if loose is not None and needed != ():
        return ("loose", loose)
    return least_tour(web, needed, start)


# All places to which ties lead from one of due, where start isn't among them; None where there is no such place.
def side_without(web, due, start):
    for place in due:
        side = tuple(sorted(trails_from(trail_steps(web, no_flow(web)), {place: (0, ())})))
        if start not in side:
            return side
    return None


def least_tour(web, needed, start):
    counts = [1 if number in needed else 0 for number in range(len(web[1]))]
    flow = levelling_flow(web, overhangs(web, counts))
    # The flow may have rings of nought that no walk from start comes to; without them it is as cheap.
    whole = counts_around(web, [count + flow[number] for number, count in enumerate(counts)], start)
    return ("tour", oneway_over(web, whole, start)[1], flow_heights(web, flow))


def no_flow(web):
    return [0] * len(web[1])


# The cheapest flow that leads from the places with more than nought of over to those with less.
def levelling_flow(web, over):
    flow = no_flow(web)
    left = list(over)
    while max(left) > 0:
        place = left.index(max(left))
        trails = trails_from(trail_steps(web, flow), {place: (0, ())})
        goal = min([(trails[other][0], other) for other in trails if left[other] < 0])[1]
        for step in trails[goal][1]:
            flow[step[0]] += step[1]
        left[place] -= 1
        left[goal] += 1
    return flow


def flow_heights(web, flow):
    begun = {}
    for place in range(web[0]):
        begun[place] = (0, ())
    trails = trails_from(trail_steps(web, flow), begun)
    return tuple([trails[place][0] for place in range(web[0])])


# All steps that a trail may have, as (from, to, price, (tie, by how much its flow changes)).
def trail_steps(web, flow):
    steps = []
    for number, tie in enumerate(web[1]):
        steps.append((tie[0], tie[1], tie[2], (number, 1)))
        if flow[number] > 0:
            steps.append((tie[1], tie[0], -tie[2], (number, -1)))
    return steps


# A dict from places to (price, trail) of the cheapest trails that go on from those in begun.
def trails_from(steps, begun):
    found = dict(begun)
    grown = True
    while grown:
        grown = False
        for step in steps:
            if step[0] in found and is_cheaper_trail(step, found):
                found[step[1]] = (found[step[0]][0] + step[2], found[step[0]][1] + (step[3],))
                grown = True
    return found


def is_cheaper_trail(step, found):
    return step[1] not in found or found[step[0]][0] + step[2] < found[step[1]][0]
