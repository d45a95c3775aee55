"""Webs and things for the tests, and what the tests count for themselves, without the program."""

import itertools
import random

BIG = 10 ** 40 - 1


def deep(kind, depth):
    thing = kind()
    for _ in range(depth - 1):
        thing = kind([thing])
    return thing


# Plain things of every kind, none of them a web, a paper, a ring, or a set of more than nothing.
ODD_THINGS = [
    None, True, False, 0, 1, 2, -1, BIG, -BIG, "", " ", "web", "way", "none", "least", "better", "0", "()",
    [], [()], [[]], [0], [0, 1], [1, ()], [True], (None,), (True,), (False,), ("",), ((),), ([],), (-1,),
    (BIG,), (-BIG,),
    (0, 0), (0, False), (0, True), (1, 0), ((), ()), ([], []), (None, None), ("", ""), ((0,), (1,)), (1, []), (1, None),
    (True, ()), (0, (0, 1, "2")), (None, None, None), (None, None, None, None), ("web", 1), ("web",),
    deep(tuple, 30), deep(list, 30), (0,) * 50000, (True,) * 50000, tuple(range(49999, -1, -1)),
]


def subsets(numbers):
    """All rising tuples of some of numbers."""
    numbers = tuple(numbers)
    return [some for count in range(len(numbers) + 1) for some in itertools.combinations(numbers, count)]


def own_odds(web, some):
    return tuple(place for place in range(web[0])
                 if sum(1 for number in some if place in web[1][number][:2]) % 2)


def own_price(web, some):
    return sum(web[1][number][2] for number in some)


def own_cut(web, side):
    return tuple(number for number, (a, b, _) in enumerate(web[1]) if len({a, b} & set(side)) == 1)


def own_turns(one, other):
    return tuple(sorted(set(one) ^ set(other)))


def own_below(web):
    return tuple(k for k, tie in enumerate(web[1]) if tie[2] < 0)


def reached(web, place):
    """All places that one comes to from place."""
    found = {place}
    while True:
        more = {end for a, b, _ in web[1] if a in found or b in found for end in (a, b)} - found
        if not more:
            return tuple(sorted(found))
        found |= more


def own_parts(web):
    return tuple(sorted({reached(web, place) for place in range(web[0])}))


def joins_by_told(web):
    """All sets of the web, gone through, by their odds."""
    found = {}
    for some in subsets(range(len(web[1]))):
        found.setdefault(own_odds(web, some), []).append(some)
    return found


def least_by_told(web, ins=(), outs=()):
    """The least price of a join with ins and without outs, by its told places, tie by tie."""
    found = {(): 0}
    for number, (a, b, price) in enumerate(web[1]):
        taken = {own_turns(told, (a, b)): known + price for told, known in found.items()}
        if number in ins:
            found = taken
        elif number not in outs:
            found = {told: min(known.get(told, least) for known in (found, taken))
                     for part in (found, taken) for told, least in part.items()}
    return found


def prices_by_told(web):
    """The prices of all joins, rising, by their told places, tie by tie."""
    found = {(): [0]}
    for a, b, price in web[1]:
        taken = {own_turns(told, (a, b)): [known + price for known in prices] for told, prices in found.items()}
        found = {told: found.get(told, []) + taken.get(told, []) for told in list(found) + list(taken)}
    return {told: sorted(prices) for told, prices in found.items()}


def some_web(source, places, ties, low, high):
    many = source.randint(*places)
    count = source.randint(*ties) if many > 1 else 0
    found = []
    for _ in range(count):
        a, b = sorted(source.sample(range(many), 2))
        found.append((a, b, source.randint(low, high)))
    return (many, tuple(found))


def some_webs(seed, count, places=(1, 6), ties=(0, 9), low=-5, high=9):
    """Webs drawn by a seed: the same ones on every run."""
    source = random.Random(seed)
    return [some_web(source, places, ties, low, high) for _ in range(count)]


# Webs without ties, of one place, with alike ties, with several parts, with lone places, with prices of nought.
SMALL_WEBS = [
    (1, ()),
    (3, ()),
    (2, ((0, 1, 5),)),
    (2, ((0, 1, -5),)),
    (2, ((0, 1, 3), (0, 1, 3))),
    (2, ((0, 1, -3), (0, 1, -3), (0, 1, 0))),
    (3, ((0, 1, 1), (1, 2, 1), (0, 2, 1))),
    (3, ((0, 1, -1), (1, 2, 2), (0, 2, -3))),
    (4, ((0, 1, 1), (2, 3, 1))),
    (5, ((0, 2, 0), (0, 2, 0), (2, 4, 0), (1, 3, -1))),
    (5, ((0, 1, 2), (1, 2, 2), (0, 2, 2), (2, 3, 1), (3, 4, -1), (2, 4, 1))),
    (4, ((0, 1, 1), (0, 2, 1), (0, 3, 1), (1, 2, 1), (1, 3, 1), (2, 3, 1))),
    (6, ((0, 3, 4), (1, 3, 4), (2, 3, 4), (3, 4, -7), (4, 5, 99), (3, 5, -99))),
]


def plain_of(web):
    return (web[0], tuple((a, b, abs(price)) for a, b, price in web[1]))


def priced(web, number, price):
    """The web with another price of one tie."""
    a, b, _ = web[1][number]
    return (web[0], web[1][:number] + ((a, b, price),) + web[1][number + 1:])


def own_ways(web, one, other):
    """All ways from one to other, as sets, by going on from place to place."""
    found = []
    started = [(one, (one,), ())]
    while started:
        place, places, row = started.pop()
        if place == other:
            found.append(tuple(sorted(row)))
            continue
        for number, (a, b, _) in enumerate(web[1]):
            if place in (a, b):
                end = a + b - place
                if end not in places:
                    started.append((end, places + (end,), row + (number,)))
    return found


def is_number(thing):
    return type(thing) is int


def own_is_rising(thing, bound):
    return (type(thing) is tuple and all(is_number(number) and 0 <= number < bound for number in thing)
            and list(thing) == sorted(set(thing)))


def refusal(error, ask, *asked):
    """(what is told, None), or (None, the fields of the refusal)."""
    try:
        return (ask(*asked), None)
    except error as refused:
        fields = tuple(vars(refused).values())
        return (None, fields)


# Things in the place of a whole number, of a rising tuple, of any tuple.
NO_NUMBERS = [None, True, False, "", "1", (), (1,), [1], [], [[]]]
NO_SIDES = [None, True, False, 0, 1, "", "0", [], [0], (True,), (False,), (0, True), (1, 0), (0, 0), (-1,),
            (99,), (0, 99), ((0,),), ([0],), (None,), ("0",), (0, None)]
