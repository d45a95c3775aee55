import copy
import random
import unittest

from oddjoins.errors import NoPaper
from oddjoins.waychecker import lets_way
from oddjoins.ways import heights_from, way_between, way_paper

from tests.samples import (BIG, NO_NUMBERS, NO_SIDES, ODD_THINGS, SMALL_WEBS, is_number, own_cut, own_is_rising,
                           own_odds, own_price, own_turns, own_ways, plain_of, reached, refusal, some_webs, subsets)

WEBS = ([plain_of(web) for web in SMALL_WEBS] + some_webs(11, 40, low=0, high=9) + some_webs(12, 40, low=0, high=2)
        + some_webs(13, 10, low=0, high=0))
FULL = some_webs(14, 6, places=(9, 9), ties=(14, 16), low=0, high=99)


def own_verdict(web, one, other, thing):
    """The fields of the refusal that is due, None where thing is a paper: as the document tells it."""
    if (type(thing) is tuple and len(thing) == 3 and thing[0] == "way" and own_is_rising(thing[1], len(web[1]))
            and type(thing[2]) is tuple and len(thing[2]) == web[0] and all(is_number(height) for height in thing[2])):
        heights = thing[2]
        if own_odds(web, thing[1]) != own_turns((one,), (other,)):
            return ("odds", -1)
        steep = [k for k, (a, b, price) in enumerate(web[1]) if not -price <= heights[a] - heights[b] <= price]
        if steep:
            return ("tie", min(steep))
        return None if heights[other] - heights[one] == own_price(web, thing[1]) else ("price", -1)
    if type(thing) is tuple and len(thing) == 2 and thing[0] == "none" and own_is_rising(thing[1], web[0]):
        if one not in thing[1] or other in thing[1]:
            return ("side", -1)
        return ("tie", own_cut(web, thing[1])[0]) if own_cut(web, thing[1]) else None
    return ("shape", -1)


class Ways(unittest.TestCase):

    def test_least_ways_and_heights_against_all_ways(self):
        for web in WEBS + FULL[:1]:
            for one in range(web[0]):
                heights = heights_from(web, one)
                self.assertIs(type(heights), tuple)
                self.assertEqual(len(heights), web[0])
                for other in range(web[0]):
                    ways = own_ways(web, one, other)
                    way = way_between(web, one, other)
                    if not ways:
                        self.assertIsNone(way)
                        self.assertIsNone(heights[other])
                        continue
                    least = min(own_price(web, some) for some in ways)
                    self.assertIs(type(way), tuple)
                    self.assertIn(way, ways)
                    self.assertEqual(own_price(web, way), least)
                    self.assertEqual(heights[other], least)

    def test_plain_ones(self):
        web = (5, ((0, 1, 5), (1, 2, 1), (0, 2, 2), (0, 1, 4)))
        self.assertEqual(way_between(web, 0, 1), (1, 2))
        self.assertEqual(way_between(web, 1, 0), (1, 2))
        self.assertEqual(way_between(web, 3, 3), ())
        self.assertIsNone(way_between(web, 0, 4))
        self.assertEqual(heights_from(web, 0), (0, 3, 2, None, None))
        self.assertEqual(heights_from(web, 4), (None, None, None, None, 0))
        self.assertEqual(heights_from((1, ()), 0), (0,))

    def test_papers_are_let_by_and_of_the_sort_that_is_due(self):
        for web in WEBS + FULL:
            for one in range(web[0]):
                for other in range(web[0]):
                    paper = way_paper(web, one, other)
                    self.assertIs(type(paper), tuple)
                    self.assertEqual(paper[0], "way" if other in reached(web, one) else "none")
                    self.assertIsNone(own_verdict(web, one, other, paper))
                    self.assertIs(lets_way(web, one, other, paper), True)
                    if paper[0] == "way":
                        self.assertEqual(own_price(web, paper[1]), heights_from(web, one)[other])

    def test_nothing_is_changed_and_told_again(self):
        for web in WEBS[:20]:
            ahead = copy.deepcopy(web)
            for ask in (way_between, way_paper):
                first = ask(web, 0, web[0] - 1)
                again = ask(web, 0, web[0] - 1)
                self.assertEqual(first is None, again is None)
                if ask is way_paper:
                    self.assertIsNone(own_verdict(web, 0, web[0] - 1, again))
            self.assertEqual(heights_from(web, 0), heights_from(web, 0))
            self.assertEqual(web, ahead)


class LetsWay(unittest.TestCase):
    web = (5, ((0, 1, 5), (1, 2, 1), (0, 2, 2), (0, 1, 4), (3, 4, 0)))

    def ask(self, one, other, thing, web=None):
        told, fields = refusal(NoPaper, lets_way, web or self.web, one, other, thing)
        if fields is None:
            self.assertIs(told, True)
        else:
            self.assertIs(type(fields[1]), int)
        return fields

    def test_right_ones(self):
        for one, other, paper in ((0, 1, ("way", (1, 2), (0, 3, 2, 0, 0))), (0, 1, ("way", (1, 2), (0, 3, 2, 77, 77))),
                                  (1, 0, ("way", (1, 2), (0, -3, -2, 5, 5))),
                                  (0, 1, ("way", (1, 2), (7, 10, 9, -8, -8))),
                                  (0, 1, ("way", (1, 2), (-BIG, 3 - BIG, 2 - BIG, BIG, BIG))),
                                  (2, 2, ("way", (), (0, 0, 0, 0, 0))), (2, 2, ("way", (), (1, 0, 1, 3, 3))),
                                  (3, 4, ("way", (4,), (0, 0, 0, 0, 0))), (4, 4, ("way", (), (0, 1, 1, 0, 0))),
                                  (0, 3, ("none", (0, 1, 2))), (3, 0, ("none", (3, 4))), (4, 1, ("none", (3, 4)))):
            self.assertIsNone(self.ask(one, other, paper), paper)
        # A set of the right odds and price that has a ring of nought beside it is let by, too.
        web = (4, ((0, 1, 3), (2, 3, 0), (2, 3, 0)))
        self.assertIsNone(self.ask(0, 1, ("way", (0, 1, 2), (0, 3, 0, 0)), web))

    def test_odds(self):
        steep = (0, 99, 0, 0, 0)
        for one, other, some in ((0, 1, ()), (0, 1, (1,)), (0, 1, (0, 1)), (2, 2, (0,)), (0, 3, (1, 2)), (0, 2, (1, 2)),
                                 (0, 1, (0, 3)), (0, 1, (1, 2, 4))):
            self.assertEqual(self.ask(one, other, ("way", some, (0, 3, 2, 0, 0))), ("odds", -1))
            self.assertEqual(self.ask(one, other, ("way", some, steep)), ("odds", -1))

    def test_ties(self):
        for heights, number in (((0, 6, 6, 0, 0), 0), ((0, 5, 3, 0, 0), 1), ((0, 5, 4, 0, 0), 2), ((0, 4, 3, 0, 0), 2),
                                ((0, 5, 5, 0, 1), 2), ((0, 3, 2, 0, 1), 4), ((0, 3, 2, 1, 0), 4), ((9, 3, 2, 1, 0), 0),
                                ((0, -3, -1, 0, 0), 1), ((5, 0, 3, 0, 0), 1), ((5, 0, 1, 0, 9), 2)):
            self.assertEqual(self.ask(0, 1, ("way", (1, 2), heights)), ("tie", number), heights)
        web = (2, ((0, 1, 5), (0, 1, 4)))
        self.assertEqual(self.ask(0, 1, ("way", (0,), (0, 5)), web), ("tie", 1))
        self.assertIsNone(self.ask(0, 1, ("way", (1,), (0, 4)), web))
        self.assertEqual(self.ask(0, 1, ("way", (0,), (0, 4)), web), ("price", -1))

    def test_price(self):
        for one, other, some, heights in ((0, 1, (0,), (0, 3, 2, 0, 0)), (0, 1, (1, 2), (0, 2, 2, 0, 0)),
                                          (1, 0, (1, 2), (0, 3, 2, 0, 0)), (0, 1, (1, 2), (0, 0, 0, 0, 0)),
                                          (1, 1, (0, 3), (0, 0, 0, 0, 0))):
            self.assertEqual(self.ask(one, other, ("way", some, heights)), ("price", -1))

    def test_none_papers(self):
        for one, other, side in ((0, 3, ()), (0, 3, (3, 4)), (0, 3, (1, 2)), (0, 3, (0, 1, 2, 3)), (0, 3, (0, 3)),
                                 (3, 0, (0, 1, 2, 3, 4)), (1, 1, (0, 1, 2)), (1, 1, ()), (0, 1, (1,)),
                                 (0, 1, (0, 1, 2))):
            self.assertEqual(self.ask(one, other, ("none", side)), ("side", -1), side)
        for one, other, side, number in ((0, 3, (0,), 0), (0, 3, (0, 1), 1), (0, 3, (0, 1, 2, 4), 4), (0, 1, (0, 2), 0),
                                         (1, 3, (1,), 0), (2, 3, (2,), 1), (0, 2, (0, 1), 1), (3, 0, (3,), 4)):
            self.assertEqual(self.ask(one, other, ("none", side)), ("tie", number), side)

    def test_shapes(self):
        right = ("way", (1, 2), (0, 3, 2, 0, 0))
        wrong = [list(right), right[:2], right + ((),), right[1:], (right,), ("way",), ("ways",) + right[1:],
                 ("none",) + right[1:], ("way", (0, 1, 2)), ("none",), ("none", (0, 1, 2), ()), ["none", (0, 1, 2)],
                 ("least", (0, 1, 2)), ("none", ("none", (0, 1, 2))), ("None", (0, 1, 2)), (None, (0, 1, 2)),
                 ("way", (1, 2), [0, 3, 2, 0, 0]), ("way", (1, 2), (0, 3, 2, 0)), ("way", (1, 2), (0, 3, 2, 0, 0, 0)),
                 ("way", (1, 2), ()), ("way", (1, 2), None), ("way", (0, 1, 2, 9), right[2]), ("way", (2, 1), right[2]),
                 ("way", (5,), right[2]), ("way", right[2], (1, 2))]
        wrong += [("way", some, right[2]) for some in NO_SIDES]
        wrong += [("none", side) for side in NO_SIDES]
        wrong += [("way", (1, 2), right[2][:k] + (thing,) + right[2][k + 1:]) for k in range(5) for thing in NO_NUMBERS]
        for thing in wrong + ODD_THINGS:
            ahead = copy.deepcopy(thing)
            self.assertEqual(self.ask(0, 1, thing), ("shape", -1), thing)
            self.assertEqual(self.ask(0, 3, thing), ("shape", -1), thing)
            self.assertEqual(thing, ahead)

    def test_truths_as_heights_where_their_numbers_would_do(self):
        web = (2, ((0, 1, 1),))
        self.assertIsNone(self.ask(0, 1, ("way", (0,), (0, 1)), web))
        for heights in ((False, 1), (0, True), (False, True)):
            self.assertEqual(self.ask(0, 1, ("way", (0,), heights), web), ("shape", -1))
        self.assertEqual(self.ask(0, 1, ("way", (False,), (0, 1)), web), ("shape", -1))

    def test_all_small_papers_are_judged_as_told(self):
        source = random.Random(15)
        for web in WEBS[:40]:
            for _ in range(60):
                one, other = source.randrange(web[0]), source.randrange(web[0])
                some = source.choice(own_ways(web, one, other) + subsets(range(min(4, len(web[1])))))
                heights = list(way_paper(web, one, one)[2])
                heights[source.randrange(web[0])] += source.choice((0, 0, 1, -1))
                side = source.choice([reached(web, one), source.choice(subsets(range(web[0])))])
                for thing in (("way", some, tuple(heights)), ("none", side)):
                    self.assertEqual(self.ask(one, other, thing, web), own_verdict(web, one, other, thing))

    def test_what_is_let_by_is_so(self):
        for web in WEBS[:13]:
            for one in range(web[0]):
                for other in range(web[0]):
                    ways = own_ways(web, one, other)
                    for side in subsets(range(web[0])):
                        if self.ask(one, other, ("none", side), web) is None:
                            self.assertEqual(ways, [])
                    heights = tuple(0 if height is None else height for height in heights_from(web, one))
                    for some in ways:
                        let = self.ask(one, other, ("way", some, heights), web) is None
                        self.assertEqual(let, own_price(web, some) == min(own_price(web, way) for way in ways))
