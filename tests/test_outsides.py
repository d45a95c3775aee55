import copy
import random
import unittest

from oddjoins.drawing import drawn_turns
from oddjoins.errors import TooMany
from oddjoins.outsides import odd_faces, outside_of
from oddjoins.webs import is_web

from tests.flats import (all_turns, own_faces, own_flat, own_odd_faces, own_outside, rising_turns, some_drawn,
                         some_turns)
from tests.samples import SMALL_WEBS, own_cut, own_odds, refusal, some_webs, subsets

WEBS = SMALL_WEBS + some_webs(321, 40, ties=(0, 9))


class Outsides(unittest.TestCase):

    def ask(self, web, turns):
        ahead = copy.deepcopy((web, turns))
        told, fields = refusal(TooMany, outside_of, web, turns)
        odd = odd_faces(web, turns)
        self.assertEqual((web, turns), ahead)
        self.assertIs(type(odd), tuple)
        self.assertEqual(odd, own_odd_faces(web, turns))
        if len(own_faces(web, turns)) > 9:
            self.assertEqual(fields, ("faces",))
            return None
        self.assertIsNone(fields)
        self.assertEqual(told, own_outside(web, turns))
        self.assertTrue(is_web(told[0]))
        self.assertEqual([type(part) for part in told], [tuple, tuple])
        return told

    def test_told_ones(self):
        # A ring of three with a tail: the tail stands twice in one face.
        web = (4, ((0, 1, 7), (2, 3, 1), (1, 2, -8), (0, 2, 9)))
        turns = ((0, 3), (0, 2), (1, 2, 3), (1,))
        self.assertEqual(self.ask(web, turns), ((2, ((0, 1, 7), (0, 1, -8), (0, 1, 9))), (0, 2, 3)))
        self.assertEqual(odd_faces(web, turns), (0, 1))
        # Two ties side by side; a line; a tie alone.
        self.assertEqual(self.ask((2, ((0, 1, 3), (0, 1, 4))), ((0, 1), (0, 1))), ((2, ((0, 1, 3), (0, 1, 4))), (0, 1)))
        self.assertEqual(self.ask((3, ((0, 1, 3), (1, 2, 4))), ((0,), (0, 1), (1,))), ((1, ()), ()))
        self.assertEqual(self.ask((2, ((0, 1, 3),)), ((0,), (0,))), ((1, ()), ()))
        self.assertEqual(odd_faces((2, ((0, 1, 3),)), ((0,), (0,))), ())

    def test_one_place_where_there_are_no_faces(self):
        for many in (1, 3, 9):
            self.assertEqual(self.ask((many, ()), ((),) * many), ((1, ()), ()))
            self.assertEqual(odd_faces((many, ()), ((),) * many), ())

    def test_nine_faces_and_more(self):
        for count in range(1, 17):
            web = (2, ((0, 1, 5),) * count)
            turns = (tuple(range(count)), tuple(range(count - 1, -1, -1)))
            told = self.ask(web, turns)
            self.assertEqual(told is None, count > 9)
            self.assertEqual(odd_faces(web, turns), ())
            if told is not None:
                self.assertEqual(told[0][0], count)
        # Beyond nine faces the odd ones are told still.
        web = (3, ((0, 1, 5),) * 9 + ((1, 2, 5), (0, 2, 5)))
        turns = (tuple(range(9)) + (10,), tuple(range(8, -1, -1)) + (9,), (9, 10))
        self.assertTrue(own_flat(web, turns))
        self.assertEqual(len(own_faces(web, turns)), 10)
        self.assertIsNone(self.ask(web, turns))
        self.assertEqual(len(odd_faces(web, turns)), 2)

    def test_all_turns_of_small_webs(self):
        for web in WEBS:
            for turns in all_turns(web, 60):
                self.ask(web, turns)
        source = random.Random(322)
        refused = 0
        for web in some_webs(323, 40, places=(2, 4), ties=(12, 16), low=-99, high=99):
            for _ in range(4):
                refused += self.ask(web, some_turns(source, web)) is None
                refused += self.ask(web, rising_turns(web)) is None
        self.assertLess(refused, 320)

    def flat_ones(self):
        source = random.Random(324)
        for web in WEBS:
            for turns in [turns for turns in all_turns(web, 40) if own_flat(web, turns)][:4]:
                yield (web, turns)
        for _ in range(40):
            web, spots = some_drawn(source, (3, 7), (3, 9), -9, 9)
            yield (web, drawn_turns(web, spots))

    def test_cuts_of_faces_are_even_sets_and_all_of_them(self):
        for web, turns in self.flat_ones():
            (outside, numbers), odd = self.ask(web, turns), set(odd_faces(web, turns))
            cuts = set()
            for side in subsets(range(outside[0])):
                cut = tuple(numbers[k] for k in own_cut(outside, side))
                self.assertEqual(own_odds(web, cut), ())
                self.assertEqual(len(cut) % 2, len(odd & set(side)) % 2)
                cuts.add(cut)
            self.assertEqual(cuts, {some for some in subsets(range(len(web[1]))) if own_odds(web, some) == ()})

    def test_what_a_cut_lacks_is_a_join_for_the_odd_faces(self):
        for web, turns in self.flat_ones():
            (outside, numbers), odd = self.ask(web, turns), odd_faces(web, turns)
            lacks = set()
            for side in subsets(range(web[0])):
                lacking = [k for k, number in enumerate(numbers) if number not in own_cut(web, side)]
                self.assertEqual(own_odds(outside, lacking), odd)
                lacks.add(tuple(lacking))
            self.assertEqual(lacks, {some for some in subsets(range(len(numbers))) if own_odds(outside, some) == odd})

    def test_told_again(self):
        for web, turns in self.flat_ones():
            self.assertEqual(self.ask(web, turns), self.ask(web, turns))
            self.assertEqual(odd_faces(web, turns), odd_faces(web, turns))
