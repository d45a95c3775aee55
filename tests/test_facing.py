import copy
import random
import unittest

from oddjoins.errors import NoTurns
from oddjoins.facing import faces_of, is_flat, is_turns, right_turns

from tests.flats import all_turns, ends_at, own_faces, own_flat, rising_turns, some_turns
from tests.samples import BIG, NO_NUMBERS, ODD_THINGS, SMALL_WEBS, deep, is_number, refusal, some_webs
from tests.verdicts import spoiled

WEBS = SMALL_WEBS + some_webs(301, 40, ties=(0, 9))
FULL = some_webs(302, 10, places=(9, 9), ties=(16, 16), low=-99, high=99)

# A ring of three, one of its ties twice, a tail to 3, and 4 without ties.
WEB = (5, ((0, 1, 1), (1, 2, 2), (0, 2, -3), (0, 2, 4), (2, 3, 5)))
TURNS = ((0, 2, 3), (1, 0), (3, 4, 1, 2), (4,), ())

THREE = (2, ((0, 1, 1),) * 3)

SMALL_THINGS = [thing for thing in ODD_THINGS if type(thing) is not tuple or len(thing) < 9]


def turns_verdict(web, thing):
    """The field of the refusal that is due, None where thing is the turns of the web."""
    if type(thing) is not tuple or len(thing) != web[0]:
        return (-1,)
    for place, turn in enumerate(thing):
        if not (type(turn) is tuple and all(is_number(number) for number in turn)
                and tuple(sorted(turn)) == ends_at(web, place)):
            return (place,)
    return None


class RightTurns(unittest.TestCase):

    def ask(self, thing, web=WEB):
        ahead = copy.deepcopy(thing)
        told, fields = refusal(NoTurns, right_turns, web, thing)
        self.assertEqual(fields, turns_verdict(web, thing), thing)
        self.assertIs(is_turns(web, thing), fields is None)
        if fields is None:
            self.assertIs(told, True)
        else:
            self.assertIs(type(fields[0]), int)
        self.assertEqual(repr(thing), repr(ahead))
        return fields

    def test_turns_of_every_order(self):
        self.assertIsNone(self.ask(TURNS))
        for web in SMALL_WEBS:
            for turns in all_turns(web, 200):
                self.assertIsNone(self.ask(turns, web))
        source = random.Random(303)
        for web in WEBS + FULL:
            for _ in range(4):
                self.assertIsNone(self.ask(some_turns(source, web), web))

    def test_places_without_ties(self):
        self.assertIsNone(self.ask(((),), (1, ())))
        self.assertIsNone(self.ask(((), (), ()), (3, ())))
        self.assertEqual(self.ask(((), (0,), ()), (3, ())), (1,))
        self.assertEqual(self.ask((), (1, ())), (-1,))
        self.assertEqual(self.ask(([],), (1, ())), (0,))
        self.assertEqual(self.ask((None,), (1, ())), (0,))

    def test_no_such_tuple(self):
        for thing in (list(TURNS), TURNS[:4], TURNS[1:], TURNS + ((),), (), None, True, 5, "", (TURNS,), [TURNS]):
            self.assertEqual(self.ask(thing), (-1,), thing)
        for thing in ODD_THINGS:
            self.assertEqual(self.ask(thing), (-1,), thing)

    def test_the_least_place_that_is_wrong(self):
        for place, turn in ((0, [0, 2, 3]), (0, (0, 2)), (0, (0, 2, 3, 3)), (0, (0, 2, 2)), (0, (0, 2, 1)),
                            (0, (0, 2, 3, 1)), (0, (False, 2, 3)), (1, (True, 0)), (1, (1, False)), (0, ()), (0, None),
                            (1, (0,)), (2, (3, 4, 1, 2, 0)), (2, (4, 3, 2, True)), (2, (1, 2, 3, "4")),
                            (2, (1, 2, 3, (4,))), (2, (1, 2, 3, [4])), (2, (1, 2, 3, BIG)), (2, (1, 2, 3, -1)),
                            (3, [4]), (3, ()), (3, 4), (3, "4"), (3, (None,)), (4, (0,)), (4, []), (4, None), (4, 0),
                            (4, False), (4, "")):
            thing = TURNS[:place] + (turn,) + TURNS[place + 1:]
            self.assertEqual(self.ask(thing), (place,), thing)
            # Wrong ones behind it count for nothing.
            self.assertEqual(self.ask(thing[:place + 1] + (None,) * (4 - place)), (place,), thing)

    def test_each_thing_within_changed(self):
        for thing in spoiled(TURNS):
            self.ask(thing)
        for place in range(5):
            for thing in SMALL_THINGS + NO_NUMBERS + [deep(tuple, 28), deep(list, 28)]:
                self.ask(TURNS[:place] + (thing,) + TURNS[place + 1:])
                self.ask(TURNS[:place] + ((thing,),) + TURNS[place + 1:])
        self.assertEqual(self.ask(TURNS[:3] + ((4,) * 40000, ())), (3,))


class Faces(unittest.TestCase):

    def right(self, web, turns):
        faces = faces_of(web, turns)
        self.assertEqual(faces, own_faces(web, turns), (web, turns))
        self.assertIs(type(faces), tuple)
        self.assertTrue(all(type(face) is tuple and all(type(dart) is tuple for dart in face) for face in faces))
        darts = [dart for face in faces for dart in face]
        self.assertEqual(sorted(darts), sorted((number, place) for number, tie in enumerate(web[1]) for place in tie[:2]))
        self.assertTrue(all(face[0] == min(face) for face in faces))
        self.assertEqual(list(faces), sorted(faces))
        flat = is_flat(web, turns)
        self.assertIs(flat, own_flat(web, turns), (web, turns))
        return faces

    def test_told_ones(self):
        for web, turns, faces in (
                ((1, ()), ((),), ()), ((3, ()), ((), (), ()), ()),
                ((2, ((0, 1, 5),)), ((0,), (0,)), (((0, 0), (0, 1)),)),
                ((3, ((0, 1, 5), (1, 2, 5))), ((0,), (0, 1), (1,)), (((0, 0), (1, 1), (1, 2), (0, 1)),)),
                ((3, ((0, 1, 5), (1, 2, 5))), ((0,), (1, 0), (1,)), (((0, 0), (1, 1), (1, 2), (0, 1)),)),
                ((3, ((0, 1, 1), (1, 2, 1), (0, 2, 1))), ((0, 2), (0, 1), (1, 2)),
                 (((0, 0), (1, 1), (2, 2)), ((0, 1), (2, 0), (1, 2)))),
                ((2, ((0, 1, 1), (0, 1, 1))), ((0, 1), (0, 1)), (((0, 0), (1, 1)), ((0, 1), (1, 0)))),
                ((4, ((2, 3, 1), (0, 1, 1))), ((1,), (1,), (0,), (0,)), (((0, 2), (0, 3)), ((1, 0), (1, 1)))),
                (THREE, ((0, 1, 2), (0, 1, 2)), (((0, 0), (1, 1), (2, 0), (0, 1), (1, 0), (2, 1)),)),
                (THREE, ((0, 1, 2), (2, 1, 0)), (((0, 0), (2, 1)), ((0, 1), (1, 0)), ((1, 1), (2, 0)))),
                (WEB, TURNS, (((0, 0), (1, 1), (2, 2), (3, 0), (4, 2), (4, 3), (1, 2), (0, 1), (2, 0), (3, 2)),))):
            self.assertEqual(faces_of(web, turns), faces)
            self.right(web, turns)

    def test_all_turns_of_small_webs(self):
        for web in WEBS:
            for turns in all_turns(web, 150):
                self.right(web, turns)

    def test_full_webs(self):
        source = random.Random(304)
        for web in FULL:
            for _ in range(20):
                self.right(web, some_turns(source, web))

    def test_turns_begun_anywhere(self):
        # The first one comes behind the last one again: so where a turn begins counts for nothing.
        source = random.Random(305)
        for web in WEBS:
            turns = some_turns(source, web)
            other = tuple(turn[1:] + turn[:1] for turn in turns)
            self.assertEqual(faces_of(web, turns), faces_of(web, other))

    def test_flat_by_turns_alone(self):
        self.assertIs(is_flat(THREE, ((0, 1, 2), (0, 1, 2))), False)
        self.assertIs(is_flat(THREE, ((0, 1, 2), (0, 2, 1))), True)
        self.assertIs(is_flat(THREE, ((0, 1, 2), (2, 1, 0))), True)
        self.assertIs(is_flat((1, ()), ((),)), True)
        self.assertIs(is_flat((9, ()), ((),) * 9), True)
        every = (4, ((0, 1, 1), (0, 2, 1), (0, 3, 1), (1, 2, 1), (1, 3, 1), (2, 3, 1)))
        flat = [turns for turns in all_turns(every) if is_flat(every, turns)]
        self.assertEqual(len(flat), 2)
        # Two threes by three others are flat by no turns.
        houses = (6, tuple((a, b, 1) for a in range(3) for b in range(3, 6)))
        self.assertFalse(any(is_flat(houses, turns) for turns in all_turns(houses)))

    def test_two_parts(self):
        web = (5, ((0, 1, 1), (0, 1, 1), (0, 1, 1), (2, 3, 1), (2, 3, 1), (2, 3, 1)))
        for one, first in (((0, 1, 2), False), ((0, 2, 1), True)):
            for other, second in (((3, 4, 5), False), ((3, 5, 4), True)):
                turns = ((0, 1, 2), one, (3, 4, 5), other, ())
                self.assertIs(is_flat(web, turns), first and second)
                self.right(web, turns)

    def test_nothing_is_changed_and_told_again(self):
        for web in WEBS[:20]:
            turns = rising_turns(web)
            ahead = copy.deepcopy((web, turns))
            for _ in range(2):
                self.right(web, turns)
            self.assertEqual((web, turns), ahead)
