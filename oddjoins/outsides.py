"""The outside of a web: its faces as places, with its ties between them."""

from oddjoins.errors import TooMany
from oddjoins.facing import faces_of

MOST_FACES = 9


def outside_of(web, turns):
    faces = faces_of(web, turns)
    if len(faces) > MOST_FACES:
        raise TooMany("faces")
    pairs = face_pairs(web, faces)
    numbers = tuple([number for number, pair in enumerate(pairs) if pair[0] != pair[1]])
    ties = tuple([pairs[number] + (web[1][number][2],) for number in numbers])
    # A web has one place at least, though without ties there are no faces.
    return ((max(1, len(faces)), ties), numbers)


# For each tie the numbers of the two faces in which it stands, the lesser first.
def face_pairs(web, faces):
    numbers = {}
    for index, face in enumerate(faces):
        for dart in face:
            numbers[dart] = index
    return [tuple(sorted([numbers[(number, tie[0])], numbers[(number, tie[1])]])) for number, tie in enumerate(web[1])]


def odd_faces(web, turns):
    return tuple([index for index, face in enumerate(faces_of(web, turns)) if len(face) % 2 == 1])
