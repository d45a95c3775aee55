import copy
import itertools
import random
import unittest

from oddjoins.forcedchecker import lets_forced
from oddjoins.forcing import forced_paper

from tests.samples import SMALL_WEBS, joins_by_told, least_by_told, own_price, some_webs, subsets
from tests.test_forcedchecker import is_forced, some_forces
from tests.verdicts import forced_verdict

WEBS = SMALL_WEBS + some_webs(101, 30, ties=(0, 8)) + some_webs(102, 15, places=(2, 4), ties=(2, 6), low=-1, high=1)
FULL = (some_webs(103, 3, places=(9, 9), ties=(16, 16), low=-99, high=99)
        + some_webs(104, 2, places=(5, 7), ties=(16, 16), low=-1, high=1))


class ForcedPaper(unittest.TestCase):

    def right(self, web, told, ins, outs, least):
        """Least is the least price of a forced join, None where there is none."""
        paper = forced_paper(web, told, ins, outs)
        self.assertIs(type(paper), tuple)
        self.assertEqual(paper[0], "none" if least is None else "least")
        self.assertIsNone(forced_verdict(web, told, ins, outs, paper), (web, told, ins, outs, paper))
        self.assertIs(lets_forced(web, told, ins, outs, paper), True)
        if least is not None:
            self.assertTrue(is_forced(paper[1], ins, outs))
            self.assertEqual(own_price(web, paper[1]), least)
        return paper

    def against_all(self, web, told, ins, outs, joins):
        prices = [own_price(web, join) for join in joins if is_forced(join, ins, outs)]
        return self.right(web, told, ins, outs, min(prices, default=None))

    def test_all_ins_and_outs_of_webs_with_few_ties(self):
        for web in SMALL_WEBS[:10]:
            by_told = joins_by_told(web)
            for lots in itertools.product((0, 1, 2), repeat=len(web[1])):
                ins, outs = [tuple(k for k, lot in enumerate(lots) if lot == own) for own in (1, 2)]
                for told in subsets(range(web[0])):
                    self.against_all(web, told, ins, outs, by_told.get(told, []))

    def test_small_webs_all_sets_gone_through(self):
        source = random.Random(105)
        words = {}
        for web in WEBS:
            by_told = joins_by_told(web)
            for told in subsets(range(web[0])):
                for ins, outs in [some_forces(source, web) for _ in range(3)]:
                    paper = self.against_all(web, told, ins, outs, by_told.get(told, []))
                    words[paper[0]] = words.get(paper[0], 0) + 1
        self.assertGreater(min(words["least"], words["none"]), 300)

    def test_at_the_bounds(self):
        source = random.Random(106)
        for web in FULL:
            for ins, outs in [((), ())] + [some_forces(source, web) for _ in range(5)]:
                least = least_by_told(web, ins, outs)
                for told in source.sample(subsets(range(web[0])), 20) + source.sample(list(least), 1):
                    self.right(web, told, ins, outs, least.get(told))

    def test_plain_ones(self):
        web = (3, ((0, 1, 5), (1, 2, 1), (0, 2, 2)))
        self.assertEqual(forced_paper(web, (0, 1), (), ())[:2], ("least", (1, 2)))
        self.assertEqual(forced_paper(web, (0, 1), (0,), ())[:2], ("least", (0,)))
        self.assertEqual(forced_paper(web, (0, 1), (), (1,))[:2], ("least", (0,)))
        self.assertEqual(forced_paper(web, (), (0,), ())[:2], ("least", (0, 1, 2)))
        self.assertEqual(forced_paper(web, (), (0, 1, 2), ())[:2], ("least", (0, 1, 2)))
        self.assertEqual(forced_paper(web, (), (), (0, 1, 2))[:2], ("least", ()))
        self.assertEqual(forced_paper(web, (), (0,), (1,))[0], "none")
        self.assertEqual(forced_paper(web, (0,), (), ())[0], "none")
        self.assertEqual(forced_paper((1, ()), (), (), ())[:2], ("least", ()))
        self.assertEqual(forced_paper((1, ()), (0,), (), ()), ("none", (0,)))

    def test_nothing_is_changed_and_told_again(self):
        source = random.Random(107)
        for web in WEBS[:25]:
            ahead = copy.deepcopy(web)
            for told in subsets(range(web[0])):
                ins, outs = some_forces(source, web)
                least = least_by_told(web, ins, outs).get(told)
                self.right(web, told, ins, outs, least)
                self.right(web, told, outs, ins, least_by_told(web, outs, ins).get(told))
                self.right(web, told, ins, outs, least)
            self.assertEqual(web, ahead)
