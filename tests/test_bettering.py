import copy
import random
import unittest

from oddjoins.bettering import better_ring, judged_join, lets_better
from oddjoins.errors import NoPaper
from oddjoins.joinchecker import lets_join
from oddjoins.walks import is_ring

from tests.samples import (NO_SIDES, ODD_THINGS, SMALL_WEBS, joins_by_told, own_odds, own_price, refusal, some_webs,
                           subsets)
from tests.verdicts import better_verdict, join_verdict

WEBS = SMALL_WEBS + some_webs(51, 40, ties=(0, 7)) + some_webs(52, 20, ties=(4, 7), low=-1, high=1)


def is_one_ring(web, even):
    """Whether the ties of an even set make just one ring: none of its sets but itself and () is even."""
    return even != () and [some for some in subsets(even) if own_odds(web, some) == ()] == [(), even]


class LetsBetter(unittest.TestCase):
    web = (5, ((0, 1, 5), (1, 2, 1), (0, 2, 2), (0, 1, 4), (2, 3, 0)))

    def ask(self, told, thing, web=None):
        told, fields = refusal(NoPaper, lets_better, web or self.web, told, thing)
        if fields is None:
            self.assertIs(told, True)
        else:
            self.assertIs(type(fields[1]), int)
        return fields

    def test_right_ones(self):
        for told, join, even in (((0, 1), (0,), (0, 3)), ((0, 1), (0,), (0, 1, 2)), ((0, 1), (3,), (1, 2, 3)),
                                 ((), (0, 3), (0, 3)), ((), (0, 1, 2), (0, 3)), ((1, 3), (0, 2, 4), (0, 1, 2))):
            self.assertIsNone(self.ask(told, ("better", join, even)), (join, even))
        self.assertIsNone(self.ask((), ("better", (), (0, 1)), (2, ((0, 1, -1), (0, 1, 0)))))

    def test_odds_ahead_of_all_else(self):
        for told, join, place in (((0, 1), (), 0), ((0, 1), (1,), 0), ((0, 1), (2,), 1), ((), (4,), 2), ((3,), (), 3),
                                  ((0, 1), (0, 4), 2), ((0, 4), (0,), 1)):
            for even in ((), (0, 3), (0,), (1, 4)):
                self.assertEqual(self.ask(told, ("better", join, even)), ("odds", place), join)

    def test_even_ahead_of_price(self):
        for even, place in (((0,), 0), ((1,), 1), ((4,), 2), ((0, 1), 0), ((0, 3, 4), 2), ((1, 3), 0), ((1, 4), 1)):
            for told, join in (((0, 1), (0,)), ((0, 1), (1, 2)), ((), ())):
                self.assertEqual(self.ask(told, ("better", join, even)), ("even", place), even)

    def test_price(self):
        for told, join, even in (((0, 1), (1, 2), ()), ((0, 1), (0,), ()), ((0, 1), (1, 2), (0, 1, 2)),
                                 ((), (), (0, 3)), ((0, 1), (1, 2), (1, 2, 3)), ((0, 1), (3,), (0, 3)), ((), (), ())):
            self.assertEqual(self.ask(told, ("better", join, even)), ("price", 0), (join, even))
        # Just as dear is not better.
        self.assertEqual(self.ask((0, 1), ("better", (0,), (0, 1)), (2, ((0, 1, 3), (0, 1, 3)))), ("price", 0))

    def test_shapes(self):
        right = ("better", (0,), (0, 3))
        wrong = [list(right), right[:2], right + ((),), right[1:], (right,), ("Better",) + right[1:],
                 (None,) + right[1:], ("least",) + right[1:], ("better",),
                 ("better", (5,), (0, 3)), ("better", (0,), (0, 5)),
                 ("better", (0,), (3, 0)), ("better", (0,), [0, 3]), ("better", [0], (0, 3)), ("better", 0, (0, 3))]
        wrong += [("better", some, (0, 3)) for some in NO_SIDES] + [("better", (0,), some) for some in NO_SIDES]
        wrong += [("better", (), some) for some in NO_SIDES]
        for thing in wrong + ODD_THINGS:
            ahead = copy.deepcopy(thing)
            self.assertEqual(self.ask((0, 1), thing), ("shape", 0), thing)
            self.assertEqual(thing, ahead)

    def test_papers_are_judged_as_told(self):
        source = random.Random(53)
        for web in WEBS:
            sets = subsets(range(len(web[1])))
            by_told = joins_by_told(web)
            for _ in range(60):
                told = source.choice(subsets(range(web[0])))
                join = source.choice(by_told.get(told, sets) + [source.choice(sets)])
                even = source.choice(by_told[()] + [source.choice(sets)])
                thing = ("better", join, even)
                self.assertEqual(self.ask(told, thing, web), better_verdict(web, told, thing))


class Judged(unittest.TestCase):

    def test_all_joins(self):
        for web in WEBS:
            for told, joins in joins_by_told(web).items():
                least = min(own_price(web, join) for join in joins)
                for join in joins:
                    paper = judged_join(web, told, join)
                    self.assertIs(type(paper), tuple)
                    self.assertEqual(paper[1], join)
                    if own_price(web, join) == least:
                        self.assertEqual(paper[0], "least")
                        self.assertIsNone(join_verdict(web, told, paper))
                        self.assertIs(lets_join(web, told, paper), True)
                    else:
                        self.assertEqual(paper[0], "better")
                        self.assertIsNone(better_verdict(web, told, paper))
                        self.assertIs(lets_better(web, told, paper), True)

    def test_just_one_of_both_sorts_is_there(self):
        for web in SMALL_WEBS:
            by_told = joins_by_told(web)
            for told, joins in by_told.items():
                for join in joins:
                    better = [even for even in by_told[()] if better_verdict(web, told, ("better", join, even)) is None]
                    self.assertEqual(judged_join(web, told, join)[0], "better" if better else "least")

    def test_at_the_bounds(self):
        for web in some_webs(54, 3, places=(9, 9), ties=(16, 16), low=-99, high=99):
            for some in subsets(range(16))[::997]:
                told = own_odds(web, some)
                paper = judged_join(web, told, some)
                self.assertEqual(paper[1], some)
                own = better_verdict if paper[0] == "better" else join_verdict
                self.assertIsNone(own(web, told, paper))

    def test_nothing_is_changed_and_told_again(self):
        for web in WEBS[:13]:
            ahead = copy.deepcopy(web)
            for told, joins in joins_by_told(web).items():
                first = judged_join(web, told, joins[-1])
                self.assertEqual(judged_join(web, told, joins[-1])[:2], first[:2])
            self.assertEqual(web, ahead)


class BetterRing(unittest.TestCase):

    def right(self, web, told, thing):
        paper = better_ring(web, told, thing)
        self.assertIs(type(paper), tuple)
        self.assertIs(type(paper[2]), tuple)
        self.assertEqual(paper[:2], ("better", thing[1]))
        self.assertIsNone(better_verdict(web, told, paper))
        self.assertIs(lets_better(web, told, paper), True)
        self.assertTrue(is_one_ring(web, paper[2]), paper)
        return paper

    def test_all_better_papers(self):
        for web in WEBS[:40]:
            by_told = joins_by_told(web)
            for told, joins in by_told.items():
                for join in joins[::2]:
                    for even in by_told[()]:
                        thing = ("better", join, even)
                        if better_verdict(web, told, thing) is None:
                            self.right(web, told, thing)

    def test_only_one_of_two_rings_makes_it_better(self):
        # Two rings that touch: the first one makes it dearer by 3, the second one cheaper by 6; and turned about.
        for low, high in ((1, -2), (-2, 1)):
            web = (5, ((0, 1, low), (1, 2, low), (0, 2, low), (2, 3, high), (3, 4, high), (2, 4, high)))
            paper = self.right(web, (), ("better", (), (0, 1, 2, 3, 4, 5)))
            self.assertEqual(paper, ("better", (), (0, 1, 2) if low < 0 else (3, 4, 5)))

    def test_rings_as_walks_see_them(self):
        web = (5, ((0, 1, 1), (1, 2, 1), (0, 2, 1), (2, 3, -2), (3, 4, -2), (2, 4, -2)))
        even = self.right(web, (), ("better", (), (0, 1, 2, 3, 4, 5)))[2]
        self.assertTrue(is_ring(web, (2, even)))

    def test_nothing_is_changed_and_told_again(self):
        web = (5, ((0, 1, 1), (1, 2, 1), (0, 2, 1), (2, 3, -2), (3, 4, -2), (2, 4, -2)))
        thing = ("better", (), (0, 1, 2, 3, 4, 5))
        ahead = copy.deepcopy((web, thing))
        self.right(web, (), thing)
        self.right(web, (), thing)
        self.assertEqual((web, thing), ahead)
