import copy
import unittest

from oddjoins.turning import below, turned, turned_set, turned_told
from oddjoins.webs import is_web

from tests.samples import BIG, SMALL_WEBS, own_odds, own_price, own_turns, plain_of, some_webs, subsets

WEBS = SMALL_WEBS + some_webs(6, 40, ties=(0, 7))


class Turning(unittest.TestCase):

    def test_below(self):
        self.assertEqual(below((3, ((0, 1, -1), (1, 2, 0), (0, 2, 1), (0, 1, -BIG)))), (0, 3))
        self.assertEqual(below((3, ())), ())
        for web in WEBS:
            self.assertEqual(below(web), tuple(k for k in range(len(web[1])) if web[1][k][2] < 0))

    def test_turned(self):
        self.assertEqual(turned((3, ((0, 1, -1), (1, 2, 0), (0, 2, 1)))), (3, ((0, 1, 1), (1, 2, 0), (0, 2, 1))))
        for web in WEBS:
            self.assertEqual(turned(web), plain_of(web))
            self.assertTrue(is_web(turned(web)))
            self.assertEqual(below(turned(web)), ())
            self.assertEqual(turned(turned(web)), turned(web))
            for some in subsets(range(len(web[1]))):
                self.assertEqual(turned_set(turned(web), some), some)

    def test_turned_once(self):
        web = (4, ((0, 1, -1), (1, 2, -2), (2, 3, 5)))
        self.assertEqual(turned_told(web, ()), (0, 2))
        self.assertEqual(turned_told(web, (0, 3)), (2, 3))
        self.assertEqual(turned_told(web, (0, 2)), ())
        self.assertEqual(turned_set(web, (1, 2)), (0, 2))
        self.assertEqual(turned_set(web, ()), (0, 1))

    def test_turned_twice(self):
        for web in WEBS:
            for told in subsets(range(web[0])):
                self.assertEqual(turned_told(web, turned_told(web, told)), told)
            for some in subsets(range(len(web[1]))):
                self.assertEqual(turned_set(web, some), own_turns(some, below(web)))
                self.assertEqual(turned_set(web, turned_set(web, some)), some)

    def test_odds_and_prices_of_turned_sets(self):
        for web in WEBS:
            base = own_price(web, below(web))
            for some in subsets(range(len(web[1]))):
                other = turned_set(web, some)
                self.assertEqual(own_odds(web, other), turned_told(web, own_odds(web, some)))
                self.assertEqual(own_price(web, some), base + own_price(turned(web), other))

    def test_kinds_and_nothing_changed_and_told_again(self):
        for web in WEBS:
            ahead = copy.deepcopy(web)
            for ask in (below, turned, lambda web: turned_told(web, (0,)), lambda web: turned_set(web, ())):
                first = ask(web)
                self.assertIs(type(first), tuple)
                self.assertEqual(ask(web), first)
            self.assertEqual(web, ahead)
            self.assertIs(type(turned(web)[1]), tuple)
            self.assertTrue(all(type(tie) is tuple for tie in turned(web)[1]))
