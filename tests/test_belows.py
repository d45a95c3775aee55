import copy
import unittest

from oddjoins.belowchecker import lets_below
from oddjoins.belows import below_paper

from tests.samples import (SMALL_WEBS, joins_by_told, least_by_told, own_odds, own_price, plain_of, some_webs)
from tests.verdicts import below_verdict

WEBS = (SMALL_WEBS + [plain_of(web) for web in SMALL_WEBS] + some_webs(71, 80) + some_webs(72, 40, low=-1, high=1)
        + some_webs(73, 10, low=0, high=0) + some_webs(74, 40, places=(3, 7), ties=(3, 8), low=-4, high=4)
        + some_webs(75, 20, places=(2, 3), ties=(2, 7), low=-2, high=6))
FULL = (some_webs(76, 20, places=(9, 9), ties=(16, 16), low=-99, high=99)
        + some_webs(77, 20, places=(9, 9), ties=(16, 16), low=-9, high=99)
        + some_webs(78, 10, places=(9, 9), ties=(14, 16), low=-1, high=1)
        + some_webs(79, 5, places=(2, 4), ties=(16, 16), low=-2, high=99))


class BelowPaper(unittest.TestCase):

    def right(self, web, least):
        paper = below_paper(web)
        self.assertIs(type(paper), tuple)
        self.assertEqual(paper[0], "ring" if least < 0 else "none")
        self.assertIsNone(below_verdict(web, paper), (web, paper))
        self.assertIs(lets_below(web, paper), True)
        return paper

    def test_small_webs_all_even_sets_gone_through(self):
        words = {}
        for web in WEBS:
            least = min(own_price(web, even) for even in joins_by_told(web)[()])
            paper = self.right(web, least)
            words[paper[0]] = words.get(paper[0], 0) + 1
            if paper[0] == "ring":
                self.assertEqual(own_odds(web, paper[2]), ())
                self.assertLess(own_price(web, paper[2]), 0)
        self.assertGreater(min(words["ring"], words["none"]), 30)

    def test_at_the_bounds(self):
        words = {}
        for web in FULL:
            words[self.right(web, least_by_told(web)[()])[0]] = True
        self.assertEqual(set(words), {"ring", "none"})

    def test_alike_ties(self):
        self.assertEqual(self.right((2, ((0, 1, -1), (0, 1, 0))), -1)[0], "ring")
        self.assertEqual(self.right((2, ((0, 1, -1), (0, 1, 1))), 0)[0], "none")
        self.assertEqual(sorted(self.right((2, ((0, 1, 5), (0, 1, -1), (0, 1, -1))), -2)[2]), [1, 2])

    def test_prices_of_nought(self):
        self.right((3, ((0, 1, 0), (1, 2, 0), (0, 2, 0))), 0)
        self.right((3, ((0, 1, 2), (1, 2, -1), (0, 2, -1))), 0)
        self.right((3, ((0, 1, 2), (1, 2, -1), (0, 2, -2))), -1)

    def test_several_parts(self):
        ring = ((0, 1, 1), (1, 2, 1), (0, 2, 1))
        for price, least in ((-2, 0), (-3, -1)):
            for web in ((7, ring + ((4, 5, 1), (5, 6, 1), (4, 6, price))),
                        (7, ring[:2] + ((0, 2, price), (4, 5, 1), (5, 6, 1), (4, 6, 9)))):
                self.right(web, least)
        # Two rings that touch, of which only one is below nought, though both together aren't.
        for low, high in ((5, -1), (-1, 5)):
            web = (5, ((0, 1, low), (1, 2, low), (0, 2, low), (2, 3, high), (3, 4, high), (2, 4, high)))
            self.assertEqual(sorted(self.right(web, -3)[2]), [0, 1, 2] if low < 0 else [3, 4, 5])

    def test_nothing_is_changed_and_told_again(self):
        for web in WEBS[:40]:
            ahead = copy.deepcopy(web)
            first = below_paper(web)
            for other in WEBS[:5]:
                below_paper(other)
            self.assertEqual(self.right(web, least_by_told(web)[()])[0], first[0])
            self.assertEqual(web, ahead)
