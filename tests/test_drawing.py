import copy
import itertools
import random
import unittest

from oddjoins.drawing import drawn_turns
from oddjoins.errors import NoTurns
from oddjoins.facing import is_flat, right_turns

from tests.flats import own_drawn, own_flat, some_drawn
from tests.samples import SMALL_WEBS, refusal, some_webs

# A star: 0 in the middle, all others around it.
STAR = (9, tuple((0, place, 1) for place in range(1, 9)))
AROUND = ((1, 0), (1, 1), (0, 1), (-1, 1), (-1, 0), (-1, -1), (0, -1), (1, -1))


class DrawnTurns(unittest.TestCase):

    def ask(self, web, spots):
        ahead = copy.deepcopy((web, spots))
        told, fields = refusal(NoTurns, drawn_turns, web, spots)
        self.assertEqual((web, spots), ahead)
        due, place = own_drawn(web, spots)
        self.assertEqual(told, due, (web, spots))
        if fields is None:
            self.assertIs(type(told), tuple)
            self.assertTrue(all(type(turn) is tuple for turn in told))
            self.assertIs(right_turns(web, told), True)
            return told
        self.assertEqual(fields, (place,), (web, spots))
        self.assertIs(type(fields[0]), int)
        return fields

    def test_spots_on_all_sides(self):
        self.assertEqual(self.ask(STAR, ((0, 0),) + AROUND)[0], tuple(range(8)))
        self.assertEqual(self.ask(STAR, ((0, 0),) + AROUND[::-1])[0], (0, 7, 6, 5, 4, 3, 2, 1))
        for k in range(8):
            self.assertEqual(self.ask(STAR, ((0, 0),) + AROUND[k:] + AROUND[:k])[0], tuple(range(8)))
        # Wherever the middle is, and however far the others are.
        spots = ((-900, 900),) + tuple((x * 100 * k - 900, y * 100 * k + 900) for k, (x, y) in enumerate(AROUND, 1))
        self.assertEqual(self.ask(STAR, spots)[0], tuple(range(8)))

    def test_against_the_clock_from_the_least_number(self):
        web = (5, ((0, 4, 1), (0, 3, 1), (0, 2, 1), (0, 1, 1)))
        # Right, up, left, down.
        spots = ((0, 0), (1, 0), (0, 1), (-1, 0), (0, -1))
        self.assertEqual(self.ask(web, spots), ((0, 3, 2, 1), (3,), (2,), (1,), (0,)))
        source = random.Random(311)
        for _ in range(200):
            order = source.sample(range(8), 8)
            spots = ((0, 0),) + tuple(AROUND[k] for k in order)
            turn = [order.index(k) for k in range(8)]
            first = turn.index(0)
            self.assertEqual(self.ask(STAR, spots)[0], tuple(turn[first:] + turn[:first]))

    def test_narrow_ways(self):
        web = (4, ((0, 1, 1), (0, 2, 1), (0, 3, 1)))
        self.assertEqual(self.ask(web, ((-1000, -1000), (1000, 999), (999, 1000), (1000, 1000)))[0], (0, 2, 1))
        self.assertEqual(self.ask(web, ((1000, 1000), (-1000, -999), (-999, -1000), (-1000, -1000)))[0], (0, 2, 1))
        self.assertEqual(self.ask(web, ((0, 0), (1000, 999), (999, 998), (998, 997)))[0], (0, 2, 1))
        self.assertEqual(self.ask(web, ((0, 0), (-999, 1000), (-998, 999), (-997, 998)))[0], (0, 2, 1))

    def test_ties_side_by_side(self):
        web = (2, ((0, 1, 1),) * 4)
        for spots in itertools.permutations(((0, 0), (3, 1), (-2, 5), (1, -7)), 2):
            self.assertEqual(self.ask(web, spots), ((0, 1, 2, 3), (0, 3, 2, 1)))
            self.assertIs(is_flat(web, drawn_turns(web, spots)), True)
        # Those of one and the same place stand together, though others' numbers lie between.
        web = (4, ((0, 1, 1), (1, 2, 1), (0, 1, 1), (1, 3, 1), (1, 2, 1), (0, 1, 1)))
        spots = ((-1, 0), (0, 0), (1, 0), (0, 1))
        self.assertEqual(self.ask(web, spots), ((0, 2, 5), (0, 1, 4, 3, 5, 2), (1, 4), (3,)))
        spots = ((1, 0), (0, 0), (-1, 0), (0, -1))
        self.assertEqual(self.ask(web, spots)[1], (0, 1, 4, 3, 5, 2))

    def test_spots_that_are_taken(self):
        web = (4, ((0, 1, 1), (2, 3, 1)))
        for spots, place in ((((0, 0), (0, 0), (1, 1), (2, 2)), 0), (((5, 5), (0, 0), (0, 0), (2, 2)), 1),
                             (((5, 5), (0, 0), (2, 2), (2, 2)), 2), (((5, 5), (2, 2), (5, 5), (2, 2)), 0),
                             (((1, 1),) * 4, 0)):
            self.assertEqual(self.ask(web, spots), (place,))
        # Of places without ties, too.
        self.assertEqual(self.ask((3, ()), ((0, 0), (4, 4), (4, 4))), (1,))
        self.assertEqual(self.ask((3, ()), ((0, 0), (4, 4), (4, 5))), ((), (), ()))
        self.assertEqual(self.ask((1, ()), ((-1000, 1000),)), ((),))

    def test_two_ties_the_same_way(self):
        web = (4, ((1, 2, 1), (1, 3, 1), (0, 1, 1)))
        self.assertEqual(self.ask(web, ((9, 9), (0, 0), (1, 2), (2, 4))), (1,))
        self.assertEqual(self.ask(web, ((9, 9), (0, 0), (2, 4), (1, 2))), (1,))
        self.assertEqual(self.ask(web, ((2, 2), (0, 0), (1, 1), (2, 4))), (1,))
        # The other way, or nearly the same way, is right.
        self.assertEqual(self.ask(web, ((9, 9), (0, 0), (1, 2), (-2, -4)))[1], (0, 1, 2))
        self.assertEqual(self.ask(web, ((9, 9), (0, 0), (500, 999), (500, 1000)))[1], (0, 1, 2))
        # Side by side to one and the same place is no fault; a place on the way that isn't led to is none, either.
        self.assertEqual(self.ask((3, ((0, 2, 1), (0, 2, 1))), ((0, 0), (1, 1), (2, 2))), ((0, 1), (), (0, 1)))
        # Two places with one spot lie the same way from a third.
        self.assertEqual(self.ask((3, ((0, 1, 1), (0, 2, 1))), ((0, 0), (1, 1), (1, 1))), (0,))
        self.assertEqual(self.ask((3, ((0, 1, 1),)), ((0, 0), (1, 1), (1, 1))), (1,))
        self.assertEqual(self.ask((3, ((0, 2, 1), (1, 2, 1))), ((1, 1), (1, 1), (0, 0))), (0,))

    def test_any_spots(self):
        source = random.Random(312)
        refused = 0
        for web in SMALL_WEBS + some_webs(313, 60, places=(1, 9), ties=(0, 16)):
            for wide in (1, 2, 3, 1000):
                for _ in range(6):
                    spots = tuple((source.randint(-wide, wide), source.randint(-wide, wide)) for _ in range(web[0]))
                    refused += len(self.ask(web, spots)) == 1 and web[0] > 1
        self.assertGreater(refused, 100)

    def test_drawn_without_crossing_it_is_flat(self):
        source = random.Random(314)
        for _ in range(250):
            web, spots = some_drawn(source, (1, 9), (0, 16), -9, 9)
            turns = self.ask(web, spots)
            self.assertEqual(len(turns), web[0])
            self.assertIs(is_flat(web, turns), True)
            self.assertTrue(own_flat(web, turns))

    def test_told_again(self):
        source = random.Random(315)
        for _ in range(20):
            web, spots = some_drawn(source, (2, 9), (0, 16), 0, 9)
            self.assertEqual(self.ask(web, spots), self.ask(web, spots))
