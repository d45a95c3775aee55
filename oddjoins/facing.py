"""Turns of a web, the faces that they make, and whether it is flat by them."""

from oddjoins.errors import NoTurns
from oddjoins.kinds import is_tuple_of, is_whole
from oddjoins.walks import other_end
from oddjoins.webs import parts_of, ties_at


def is_turn(web, place, thing):
    if not isinstance(thing, tuple) or not all([is_whole(number) for number in thing]):
        return False
    return sorted(thing) == ties_at(web, place)


def right_turns(web, thing):
    if not is_tuple_of(thing, web[0]):
        raise NoTurns(-1)
    for place, turn in enumerate(thing):
        if not is_turn(web, place, turn):
            raise NoTurns(place)
    return True


def is_turns(web, thing):
    try:
        return right_turns(web, thing)
    except NoTurns:
        return False


def dart_behind(web, turns, dart):
    place = other_end(web[1][dart[0]], dart[1])
    turn = turns[place]
    return (turn[(turn.index(dart[0]) + 1) % len(turn)], place)


def all_darts(web):
    darts = []
    for number, tie in enumerate(web[1]):
        darts.extend([(number, tie[0]), (number, tie[1])])
    return sorted(darts)


def faces_of(web, turns):
    faces = []
    known = {}
    # Gone through rising, so the first dart that isn't known yet is the least of its face.
    for dart in all_darts(web):
        if dart not in known:
            face = face_from(web, turns, dart)
            faces.append(face)
            for other in face:
                known[other] = True
    return tuple(faces)


def face_from(web, turns, dart):
    face = [dart]
    behind = dart_behind(web, turns, dart)
    while behind != dart:
        face.append(behind)
        behind = dart_behind(web, turns, behind)
    return tuple(face)


def is_flat(web, turns):
    faces = faces_of(web, turns)
    return all([is_flat_part(web, faces, part) for part in parts_of(web)])


# A place without ties is flat by itself.
def is_flat_part(web, faces, part):
    ties = [tie for tie in web[1] if tie[0] in part]
    around = [face for face in faces if face[0][1] in part]
    return len(ties) == 0 or len(part) - len(ties) + len(around) == 2
