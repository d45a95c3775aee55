"""What is due of rows, lines and one-way tours, as the document tells it, without the program."""

import heapq

from tests.samples import is_number, own_cut, own_is_rising, own_odds, own_turns, reached
from tests.verdicts import own_is_above, own_is_tuple


def own_counts(web, row):
    return tuple(sum(1 for step in row if step == number) for number in range(len(web[1])))


def own_row_price(web, row):
    return sum(web[1][step][2] for step in row)


def end_either_way(web, start, row):
    """(the place behind the row, None), or (None, the place in it of the first step that can't be gone)."""
    place = start
    for k, step in enumerate(row):
        a, b, _ = web[1][step]
        if place not in (a, b):
            return (None, k)
        place = a + b - place
    return (place, None)


def end_one_way(web, start, row):
    place = start
    for k, step in enumerate(row):
        if web[1][step][0] != place:
            return (None, k)
        place = web[1][step][1]
    return (place, None)


def own_due(web, some, *places):
    """The places that have to be come to."""
    return set(places) | {end for number in some for end in web[1][number][:2]}


def is_parting(due, side):
    return 0 < len(due & set(side)) < len(due)


def only_ties(web, some):
    return (web[0], tuple(web[1][number] for number in some))


def hangs(web, some, due):
    """Whether all of due hang together by ties of some alone."""
    return due <= set(reached(only_ties(web, some), min(due)))


def own_is_row(web, thing):
    return (type(thing) is tuple and len(thing) <= 400
            and all(is_number(step) and 0 <= step < len(web[1]) for step in thing))


def loose_verdict(web, needed, due, side):
    if not needed:
        return ("needed", -1)
    for number in needed:
        if number in own_cut(web, side):
            return ("needed", number)
    return None if is_parting(due, side) else ("places", 0)


def own_share_rows(web, thing):
    return type(thing) is tuple and all(own_is_tuple(row, 2) and own_is_rising(row[0], web[0]) and own_is_above(row[1])
                                        for row in thing)


def line_verdict(web, needed, one, other, thing):
    """The fields of the refusal that is due, None where thing is a paper."""
    due = own_due(web, needed, one, other)
    if own_is_tuple(thing, 2) and thing[0] in ("apart", "loose") and own_is_rising(thing[1], web[0]):
        if thing[0] == "loose":
            return loose_verdict(web, needed, due, thing[1])
        if own_cut(web, thing[1]):
            return ("cut", own_cut(web, thing[1])[0])
        return None if is_parting(due, thing[1]) else ("places", 0)
    if not (own_is_tuple(thing, 4) and thing[0] == "line" and own_is_row(web, thing[1]) and own_is_above(thing[2])
            and own_share_rows(web, thing[3])):
        return ("shape", 0)
    row, bottom, rows = thing[1:]
    end, wrong = end_either_way(web, one, row)
    if wrong is not None or end != other:
        return ("walk", len(row) if wrong is None else wrong)
    counts = own_counts(web, row)
    for n, count in enumerate(counts):
        if count not in ((1, 2) if n in needed else (0, 1)):
            return ("counts", n)
    told = own_turns(own_odds(web, needed), () if one == other else (one, other))
    for r, (side, _) in enumerate(rows):
        if len(set(side) & set(told)) % 2 == 0:
            return ("odd", r)
    for n, tie in enumerate(web[1]):
        if sum(share for side, share in rows if n in own_cut(web, side)) > bottom * tie[2]:
            return ("shares", n)
    beyond = sum(tie[2] for n, tie in enumerate(web[1]) if counts[n] == (2 if n in needed else 1))
    return None if sum(share for _, share in rows) == bottom * beyond else ("sum", 0)


def oneway_verdict(web, needed, start, thing):
    due = own_due(web, needed, start)
    if own_is_tuple(thing, 2) and thing[0] in ("stuck", "shut", "loose") and own_is_rising(thing[1], web[0]):
        side = thing[1]
        if thing[0] == "loose":
            return loose_verdict(web, needed, due, side)
        if start in side:
            return ("start", 0)
        if not due & set(side):
            return ("places", 0)
        for n, (a, b, _) in enumerate(web[1]):
            if (a in side) != (b in side) and (a in side) == (thing[0] == "stuck"):
                return ("cut", n)
        return None
    if not (own_is_tuple(thing, 3) and thing[0] == "tour" and own_is_row(web, thing[1])
            and own_is_tuple(thing[2], web[0]) and all(is_number(height) for height in thing[2])):
        return ("shape", 0)
    row, heights = thing[1:]
    end, wrong = end_one_way(web, start, row)
    if wrong is not None or end != start:
        return ("walk", len(row) if wrong is None else wrong)
    for n in needed:
        if n not in row:
            return ("needed", n)
    for n, (a, b, price) in enumerate(web[1]):
        beyond = own_counts(web, row)[n] > (1 if n in needed else 0)
        if heights[b] - heights[a] > price or (beyond and heights[b] - heights[a] != price):
            return ("height", n)
    return None


def steps_of(web, one_way):
    steps = [(a, b, number) for number, (a, b, _) in enumerate(web[1])]
    return steps if one_way else steps + [(b, a, number) for a, b, number in steps]


def least_going(web, needed, one, other, one_way):
    """The least price of all rows from the one to the other with all of needed in them, None where there is none.

    Gone through by place and by which of needed are in the row so far, the cheapest first.
    """
    steps = steps_of(web, one_way)
    waiting = [(0, one, 0)]
    done = set()
    whole = (1 << len(needed)) - 1
    while waiting:
        price, place, had = heapq.heappop(waiting)
        if (place, had) in done:
            continue
        if place == other and had == whole:
            return price
        done.add((place, had))
        for a, b, number in steps:
            if a == place:
                more = had | (1 << needed.index(number)) if number in needed else had
                heapq.heappush(waiting, (price + web[1][number][2], b, more))
    return None


def leads_to(web, place):
    """All places to which one-way ties lead from place."""
    found = {place}
    while True:
        more = {b for a, b, _ in web[1] if a in found} - found
        if not more:
            return found
        found |= more


def some_oneway(source, places, ties, high):
    many = source.randint(*places)
    count = source.randint(*ties) if many > 1 else 0
    return (many, tuple(tuple(source.sample(range(many), 2)) + (source.randint(0, high),) for _ in range(count)))
