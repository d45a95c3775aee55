import copy
import unittest

from oddjoins.rankchecker import lets_ranked
from oddjoins.ranking import ranked_paper

from tests.samples import SMALL_WEBS, joins_by_told, own_odds, own_price, prices_by_told, some_webs, subsets
from tests.verdicts import ranked_verdict

WEBS = SMALL_WEBS + some_webs(181, 25, ties=(0, 7)) + some_webs(182, 15, places=(2, 4), ties=(2, 7), low=-1, high=1)
FULL = (some_webs(183, 2, places=(9, 9), ties=(16, 16), low=-99, high=99)
        + some_webs(184, 2, places=(2, 5), ties=(16, 16), low=-99, high=99)
        + some_webs(185, 2, places=(6, 9), ties=(16, 16), low=-1, high=1))


def depth(thing):
    return 1 + max([depth(part) for part in thing], default=0) if isinstance(thing, tuple) else 0


def size(thing):
    return 1 + sum(size(part) for part in thing) if isinstance(thing, tuple) else 1


class RankedPaper(unittest.TestCase):

    def right(self, web, told, count, prices):
        """Prices are those of all joins, rising."""
        paper = ranked_paper(web, told, count)
        self.assertIs(type(paper), tuple)
        joins = paper[0]
        self.assertIs(type(joins), tuple)
        self.assertEqual([own_price(web, join) for join in joins], prices[:count])
        self.assertEqual(len(set(joins)), len(joins))
        self.assertTrue(all(own_odds(web, join) == told for join in joins))
        self.assertIsNone(ranked_verdict(web, told, count, paper), (web, told, count, paper))
        self.assertIs(lets_ranked(web, told, count, paper), True)
        # It may be handed in again, as any thing.
        self.assertLessEqual(depth(paper), 30)
        self.assertLessEqual(size(paper), 50000)
        return paper

    def test_small_webs_all_joins_gone_through(self):
        fewer = 0
        for web in WEBS:
            by_told = joins_by_told(web)
            for told in subsets(range(web[0]))[::2] + list(by_told)[1::2]:
                prices = sorted(own_price(web, join) for join in by_told.get(told, []))
                for count in (1, 2, 3, 5, 8):
                    joins = self.right(web, told, count, prices)[0]
                    fewer += 0 < len(joins) < count
        self.assertGreater(fewer, 100)

    def test_each_count(self):
        for web in SMALL_WEBS[4:8] + SMALL_WEBS[11:12]:
            for told, joins in joins_by_told(web).items():
                for count in range(1, 9):
                    self.right(web, told, count, sorted(own_price(web, join) for join in joins))

    def test_none_at_all(self):
        for web in WEBS:
            for place in range(web[0]):
                for count in (1, 8):
                    paper = self.right(web, (place,), count, [])
                    self.assertEqual(paper[0], ())

    def test_webs_without_ties(self):
        self.assertEqual(ranked_paper((1, ()), (), 1), (((),), ("join", 0)))
        self.assertEqual(ranked_paper((4, ()), (), 8), (((),), ("join", 0)))
        self.assertEqual(ranked_paper((1, ()), (0,), 3), ((), ("rest", ("none", (0,)))))

    def test_at_the_bounds(self):
        for web in FULL:
            prices = prices_by_told(web)
            for told in list(prices)[::50] + [(0,), (0, 1)]:
                for count in (1, 8):
                    self.right(web, told, count, prices.get(told, []))

    def test_joins_alike_in_price(self):
        web = (2, ((0, 1, 1),) * 5)
        prices = [1] * 5 + [3] * 10 + [5]
        self.assertEqual(sorted(self.right(web, (0, 1), 5, prices)[0]), [(0,), (1,), (2,), (3,), (4,)])
        self.right(web, (0, 1), 7, prices)
        self.right((3, ((0, 1, 0), (1, 2, 0), (0, 2, 0), (0, 1, 0))), (), 8, [0] * 4)

    def test_nothing_is_changed_and_told_again(self):
        for web in WEBS[:20]:
            ahead = copy.deepcopy(web)
            prices = prices_by_told(web)
            for told in subsets(range(web[0]))[::3]:
                first = self.right(web, told, 4, prices.get(told, []))
                kept = copy.deepcopy(first)
                self.right(web, told, 2, prices.get(told, []))
                self.right(web, told, 4, prices.get(told, []))
                self.assertEqual(first, kept)
            self.assertEqual(web, ahead)
