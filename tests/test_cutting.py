import copy
import random
import unittest

from oddjoins.cutchecker import lets_cut
from oddjoins.cutting import cut_paper, most_cut
from oddjoins.drawing import drawn_turns
from oddjoins.errors import NoTurns, TooMany
from oddjoins.outsides import odd_faces, outside_of
from oddjoins.pairing import least_join
from oddjoins.webs import price_of

from tests.cuts import cut_verdict, most_weight, own_all, own_weight
from tests.flats import all_turns, own_faces, own_flat, some_drawn, some_turns
from tests.samples import SMALL_WEBS, own_is_rising, plain_of, refusal, some_webs

WEBS = ([plain_of(web) for web in SMALL_WEBS] + some_webs(341, 40, places=(1, 6), ties=(0, 9), low=0, high=9)
        + some_webs(342, 20, places=(2, 5), ties=(2, 9), low=0, high=1)
        + some_webs(343, 10, places=(2, 5), ties=(2, 9), low=0, high=0))
FULL = some_webs(344, 4, places=(9, 9), ties=(16, 16), low=0, high=99)


class MostCut(unittest.TestCase):

    def test_against_all_sides(self):
        for web in WEBS + FULL:
            ahead = copy.deepcopy(web)
            for _ in range(2):
                told = most_cut(web)
                self.assertEqual((type(told), len(told)), (tuple, 2))
                self.assertTrue(own_is_rising(told[0], web[0]))
                self.assertIs(type(told[1]), int)
                self.assertEqual(told[1], own_weight(web, told[0]))
                self.assertEqual(told[1], most_weight(web))
            self.assertEqual(web, ahead)

    def test_plain_ones(self):
        self.assertEqual(most_cut((1, ()))[1], 0)
        self.assertEqual(most_cut((9, ()))[1], 0)
        self.assertEqual(most_cut((3, ((0, 1, 2), (1, 2, 3), (0, 2, 4))))[1], 7)
        self.assertEqual(most_cut((3, ((0, 1, 0), (1, 2, 0), (0, 2, 0))))[1], 0)
        self.assertEqual(most_cut((2, ((0, 1, 99),) * 16))[1], 99 * 16)


class CutPaper(unittest.TestCase):

    def right(self, web, turns):
        """Tells the paper where there is one; else the refusal that is due goes."""
        ahead = copy.deepcopy((web, turns))
        if not own_flat(web, turns):
            self.assertEqual(refusal(NoTurns, cut_paper, web, turns), (None, (-1,)))
            return None
        if len(own_faces(web, turns)) > 9:
            self.assertEqual(refusal(TooMany, cut_paper, web, turns), (None, ("faces",)))
            return None
        paper = cut_paper(web, turns)
        self.assertIsNone(cut_verdict(web, paper), (web, turns, paper))
        self.assertIs(lets_cut(web, paper), True)
        self.assertEqual(own_weight(web, paper[1]), most_weight(web))
        self.assertEqual((web, turns), ahead)
        return paper

    def test_all_turns_of_small_webs(self):
        papers = 0
        for web in WEBS:
            for turns in all_turns(web, 40):
                papers += self.right(web, turns) is not None
        self.assertGreater(papers, 100)

    def test_drawn_ones(self):
        source = random.Random(345)
        for high in (0, 1, 9, 99):
            for _ in range(80):
                web, spots = some_drawn(source, (1, 9), (0, 16), 0, high)
                self.right(web, drawn_turns(web, spots))

    def test_full_ones(self):
        # Nine places in three by three, each tied to the next: twelve ties, five faces; and ways across.
        source = random.Random(346)
        grid = [(3 * y + x, 3 * y + x + 1) for y in range(3) for x in range(2)]
        grid += [(place, place + 3) for place in range(6)]
        across = [(0, 4), (1, 5), (3, 7), (4, 8)]
        spots = tuple((10 * (place % 3), 10 * (place // 3)) for place in range(9))
        for _ in range(30):
            pairs = grid + across
            source.shuffle(pairs)
            web = (9, tuple(pair + (source.randint(0, 99),) for pair in pairs))
            self.assertIsNotNone(self.right(web, drawn_turns(web, spots)))

    def test_what_lacks_is_the_least_join_of_the_outside(self):
        source = random.Random(347)
        for _ in range(60):
            web, spots = some_drawn(source, (3, 8), (3, 12), 0, 9)
            turns = drawn_turns(web, spots)
            if len(own_faces(web, turns)) <= 9:
                outside = outside_of(web, turns)[0]
                lacking = price_of(outside, least_join(outside, odd_faces(web, turns)))
                self.assertEqual(own_all(web) - own_weight(web, cut_paper(web, turns)[1]), lacking)

    def test_webs_without_ties_and_prices_of_nought(self):
        for many in (1, 4, 9):
            paper = self.right((many, ()), ((),) * many)
            self.assertEqual(paper[3], ())
        for web in WEBS:
            if own_all(web) == 0:
                for turns in all_turns(web, 10):
                    paper = self.right(web, turns)
                    if paper is not None:
                        self.assertEqual(paper[3], ())

    def test_not_flat_goes_ahead_of_too_many(self):
        rising = tuple(range(16))
        web = (2, ((0, 1, 1),) * 16)
        flat = (rising, rising[::-1])
        self.assertEqual(refusal(TooMany, cut_paper, web, flat), (None, ("faces",)))
        bent = (rising, rising[:-3:-1] + rising[:-2][::-1][1:] + rising[-3:-2])
        self.assertEqual(sorted(bent[1]), list(rising))
        self.assertFalse(own_flat(web, bent))
        self.assertGreater(len(own_faces(web, bent)), 9)
        self.assertEqual(refusal(NoTurns, cut_paper, web, bent), (None, (-1,)))
        # Nine faces are not too many.
        web = (2, ((0, 1, 1),) * 9)
        self.assertIsNotNone(self.right(web, (tuple(range(9)), tuple(range(8, -1, -1)))))

    def test_one_part_that_is_not_flat(self):
        web = (4, ((0, 1, 1), (0, 1, 1), (0, 1, 1), (2, 3, 5)))
        self.assertIsNone(self.right(web, ((0, 1, 2), (0, 1, 2), (3,), (3,))))
        self.assertIsNotNone(self.right(web, ((0, 1, 2), (2, 1, 0), (3,), (3,))))

    def test_any_turns(self):
        source = random.Random(348)
        for web in WEBS + FULL:
            for _ in range(4):
                self.right(web, some_turns(source, web))
