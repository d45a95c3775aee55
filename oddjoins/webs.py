"""Webs, and what is told of their sets and sides."""

from oddjoins.kinds import is_rising_below, is_tuple_of, is_whole, odd_ones

MOST_PLACES = 60
MOST_TIES = 200


def is_tie_kind(thing):
    return is_tuple_of(thing, 3) and all([is_whole(part) for part in thing])


def is_tie(many, thing):
    return is_tie_kind(thing) and thing[0] >= 0 and thing[0] < thing[1] and thing[1] < many


# Whether thing is a number from 1 to most_places and a tuple of at most most_ties things, whatever these are.
def is_web_kind(thing, most_places, most_ties):
    if not is_tuple_of(thing, 2) or not is_whole(thing[0]) or not isinstance(thing[1], tuple):
        return False
    return thing[0] >= 1 and thing[0] <= most_places and len(thing[1]) <= most_ties


def is_web(thing):
    return is_web_kind(thing, MOST_PLACES, MOST_TIES) and all([is_tie(thing[0], tie) for tie in thing[1]])


def is_side(web, thing):
    return is_rising_below(thing, web[0])


def is_told(web, thing):
    return is_side(web, thing)


def is_set(web, thing):
    return is_rising_below(thing, len(web[1]))


def is_tie_number(web, thing):
    return is_set(web, (thing,))


# What is in just one of both, rising.
def by_turns(one, other):
    return odd_ones(one + other)


def all_ties(web):
    return tuple(range(len(web[1])))


def odds_of(web, some):
    ends = []
    for number in some:
        ends.extend(web[1][number][:2])
    return odd_ones(ends)


def price_of(web, some):
    return sum([web[1][number][2] for number in some])


def cut_of(web, side):
    return tuple([number for number, tie in enumerate(web[1]) if (tie[0] in side) != (tie[1] in side)])


# The numbers of the ties that end at place, rising.
def ties_at(web, place):
    return [number for number, tie in enumerate(web[1]) if place in tie[:2]]


# Whether an odd count of told places is in side.
def is_odd_for(told, side):
    return len([place for place in side if place in told]) % 2 == 1


def parts_of(web):
    # Each place bears the least place known to hang together with it.
    leasts = list(range(web[0]))
    for tie in web[1]:
        low = min(leasts[tie[0]], leasts[tie[1]])
        high = max(leasts[tie[0]], leasts[tie[1]])
        leasts = [low if least == high else least for least in leasts]
    return tuple([places_of(leasts, least) for least in sorted(set(leasts))])


def places_of(leasts, least):
    return tuple([place for place, own in enumerate(leasts) if own == least])


def many_ends(web):
    counts = [0] * web[0]
    for tie in web[1]:
        counts[tie[0]] += 1
        counts[tie[1]] += 1
    return tuple(counts)
