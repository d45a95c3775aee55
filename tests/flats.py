"""Turns, faces and drawn webs, as the document tells them, without the program."""

import itertools
import math

from tests.samples import own_parts


def ends_at(web, place):
    return tuple(number for number, tie in enumerate(web[1]) if place in tie[:2])


def rising_turns(web):
    return tuple(ends_at(web, place) for place in range(web[0]))


def all_turns(web, most=None):
    """All turns of a web, or the first so many, each place's begun with its least tie."""
    choices = []
    for place in range(web[0]):
        ends = ends_at(web, place)
        choices.append([ends[:1] + order for order in itertools.permutations(ends[1:])])
    return list(itertools.islice(itertools.product(*choices), most))


def some_turns(source, web):
    turns = []
    for place in range(web[0]):
        ends = list(ends_at(web, place))
        source.shuffle(ends)
        turns.append(tuple(ends))
    return tuple(turns)


def own_faces(web, turns):
    behind = {}
    for number, (a, b, _) in enumerate(web[1]):
        for place, other in ((a, b), (b, a)):
            turn = turns[other] * 2
            behind[(number, place)] = (turn[turn.index(number) + 1], other)
    faces = set()
    for dart in behind:
        face = [dart]
        while behind[face[-1]] != dart:
            face.append(behind[face[-1]])
        least = face.index(min(face))
        faces.add(tuple(face[least:] + face[:least]))
    return tuple(sorted(faces))


def own_flat(web, turns):
    faces = own_faces(web, turns)
    for part in own_parts(web):
        ties = sum(1 for tie in web[1] if tie[0] in part)
        around = sum(1 for face in faces if face[0][1] in part)
        if ties and len(part) - ties + around != 2:
            return False
    return True


def flat_turns(web):
    return [turns for turns in all_turns(web) if own_flat(web, turns)]


def own_outside(web, turns):
    faces = own_faces(web, turns)
    ties = []
    numbers = []
    for number, tie in enumerate(web[1]):
        pair = [index for index, face in enumerate(faces) for dart in face if dart[0] == number]
        if pair[0] != pair[1]:
            ties.append((min(pair), max(pair), tie[2]))
            numbers.append(number)
    return ((max(1, len(faces)), tuple(ties)), tuple(numbers))


def own_odd_faces(web, turns):
    return tuple(index for index, face in enumerate(own_faces(web, turns)) if len(face) % 2)


def direction(spots, place, other):
    """The way from one spot to another one, as small as may be in whole numbers."""
    x, y = (spots[other][k] - spots[place][k] for k in (0, 1))
    much = math.gcd(x, y)
    return (x // much, y // much) if much else (0, 0)


def own_drawn(web, spots):
    """(turns, None), or (None, the least place that can't be drawn so)."""
    turns = []
    for place in range(web[0]):
        ends = [(number, sum(web[1][number][:2]) - place) for number in ends_at(web, place)]
        ways = {end: direction(spots, place, end) for _, end in ends}
        if len(set(ways.values())) < len(ways) or spots.count(spots[place]) > 1:
            return (None, place)
        turn = sorted(ends, key=lambda step: (math.atan2(ways[step[1]][1], ways[step[1]][0]),
                                              step[0] if place < step[1] else -step[0]))
        turn = [number for number, _ in turn]
        first = turn.index(min(turn)) if turn else 0
        turns.append(tuple(turn[first:] + turn[:first]))
    return (tuple(turns), None)


def side_of_line(a, b, c):
    much = (b[0] - a[0]) * (c[1] - a[1]) - (b[1] - a[1]) * (c[0] - a[0])
    return (much > 0) - (much < 0)


def is_between(a, b, c):
    """Whether spot c is on the straight tie from a to b."""
    return (side_of_line(a, b, c) == 0 and min(a[0], b[0]) <= c[0] <= max(a[0], b[0])
            and min(a[1], b[1]) <= c[1] <= max(a[1], b[1]))


def touch(a, b, c, d):
    """Whether the ties from a to b and from c to d have a point in common that isn't an end of both."""
    if {a, b} == {c, d}:
        return False
    common = {a, b} & {c, d}
    for one, two, spot in ((a, b, c), (a, b, d), (c, d, a), (c, d, b)):
        if spot not in common and is_between(one, two, spot):
            return True
    if common:
        return False
    return (side_of_line(a, b, c) * side_of_line(a, b, d) < 0 and side_of_line(c, d, a) * side_of_line(c, d, b) < 0)


def some_drawn(source, places, ties, low, high, wide=4):
    """(web, spots): a web whose ties have only ends in common, as it is drawn."""
    many = source.randint(*places)
    grid = [(x, y) for x in range(-wide, wide + 1) for y in range(-wide, wide + 1)]
    spots = tuple(source.sample(grid, many))
    count = source.randint(*ties)
    found = []
    for _ in range(12 * count):
        if many == 1 or len(found) == count:
            break
        a, b = sorted(source.sample(range(many), 2))
        rights = not any(touch(spots[a], spots[b], spots[c], spots[d]) for c, d, _ in found)
        lone = not any(is_between(spots[a], spots[b], spots[p]) for p in range(many) if p not in (a, b))
        if rights and lone:
            found.append((a, b, source.randint(low, high)))
    return ((many, tuple(found)), spots)
