import copy
import unittest

from oddjoins.onlychecker import lets_only
from oddjoins.onlying import only_paper
from oddjoins.pairing import least_join

from tests.samples import SMALL_WEBS, joins_by_told, own_odds, own_price, prices_by_told, some_webs
from tests.verdicts import only_verdict

WEBS = SMALL_WEBS + some_webs(141, 30, ties=(0, 7)) + some_webs(142, 20, places=(2, 4), ties=(2, 6), low=-1, high=1)
FULL = (some_webs(143, 2, places=(9, 9), ties=(16, 16), low=-99, high=99)
        + some_webs(144, 2, places=(6, 9), ties=(16, 16), low=-1, high=1))


class OnlyPaper(unittest.TestCase):

    def right(self, web, told, join, only):
        paper = only_paper(web, told, join)
        self.assertIs(type(paper), tuple)
        self.assertEqual(paper[0], "only" if only else "other")
        self.assertIsNone(only_verdict(web, told, join, paper), (web, told, join, paper))
        self.assertIs(lets_only(web, told, join, paper), True)
        return paper

    def test_small_webs_all_joins_gone_through(self):
        words = {}
        for web in WEBS:
            for told, joins in joins_by_told(web).items():
                least = min(own_price(web, join) for join in joins)
                many = sum(1 for join in joins if own_price(web, join) == least)
                for join in joins:
                    is_least = own_price(web, join) == least
                    word = self.right(web, told, join, many == 1 and is_least)[0]
                    words[(word, is_least)] = words.get((word, is_least), 0) + 1
        self.assertEqual(set(words), {("only", True), ("other", True), ("other", False)})
        self.assertGreater(min(words.values()), 100)

    def test_at_the_bounds(self):
        for web in FULL:
            prices = prices_by_told(web)
            sets = [tuple(k for k in range(16) if seed >> k & 1) for seed in range(0, 65536, 9973)]
            for some in sets + [(), tuple(range(16)), least_join(web, ())]:
                told = own_odds(web, some)
                no_dearer = [price for price in prices[told] if price <= own_price(web, some)]
                self.right(web, told, some, len(no_dearer) == 1)

    def test_webs_without_ties(self):
        self.assertEqual(only_paper((1, ()), (), ()), ("only", ()))
        self.assertEqual(only_paper((9, ()), (), ()), ("only", ()))

    def test_plain_ones(self):
        web = (2, ((0, 1, 1), (0, 1, 1), (0, 1, 2)))
        self.assertEqual(self.right(web, (0, 1), (0,), False), ("other", (0, 1)))
        self.assertEqual(self.right(web, (0, 1), (1,), False), ("other", (0, 1)))
        self.assertEqual(self.right(web, (), (), True)[0], "only")
        self.assertEqual(self.right((2, ((0, 1, 0), (0, 1, 0))), (), (), False), ("other", (0, 1)))
        self.assertEqual(self.right((2, ((0, 1, 0),)), (), (), True), ("only", (("none", (0,)),)))

    def test_nothing_is_changed_and_told_again(self):
        for web in WEBS[:25]:
            ahead = copy.deepcopy(web)
            for told, joins in joins_by_told(web).items():
                first = only_paper(web, told, joins[0])
                self.assertEqual(self.right(web, told, joins[0], first[0] == "only")[0], first[0])
            self.assertEqual(web, ahead)
