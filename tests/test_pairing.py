import copy
import unittest

from oddjoins.pairing import least_join, least_pairs, least_prices

from tests.samples import (SMALL_WEBS, joins_by_told, own_odds, own_price, own_ways, plain_of, some_webs, subsets)

WEBS = SMALL_WEBS + some_webs(31, 60) + some_webs(32, 30, low=-2, high=2)
PLAIN = [plain_of(web) for web in WEBS] + some_webs(33, 30, low=0, high=3)
FULL = some_webs(34, 4, places=(9, 9), ties=(16, 16), low=-99, high=99)


def own_least(web):
    return {told: min(own_price(web, join) for join in joins) for told, joins in joins_by_told(web).items()}


class LeastJoins(unittest.TestCase):

    def test_against_all_sets(self):
        for web in WEBS + PLAIN:
            least = own_least(web)
            for told in subsets(range(web[0])):
                join = least_join(web, told)
                if told not in least:
                    self.assertIsNone(join)
                    continue
                self.assertIs(type(join), tuple)
                self.assertEqual(list(join), sorted(set(join)))
                self.assertEqual(own_odds(web, join), told)
                self.assertEqual(own_price(web, join), least[told])

    def test_plain_ones(self):
        web = (5, ((0, 1, 5), (1, 2, 1), (0, 2, 2), (0, 1, 4)))
        self.assertEqual(least_join(web, ()), ())
        self.assertEqual(least_join(web, (0, 1)), (1, 2))
        self.assertIsNone(least_join(web, (0, 4)))
        self.assertIsNone(least_join(web, (0,)))
        self.assertIsNone(least_join(web, (3, 4)))
        self.assertIsNone(least_join((1, ()), (0,)))
        self.assertEqual(least_join((1, ()), ()), ())
        # Below nought both are taken, though nothing is told.
        self.assertEqual(least_join((2, ((0, 1, -5), (0, 1, -2), (0, 1, -1))), ()), (0, 1))
        self.assertEqual(least_join((2, ((0, 1, -5), (0, 1, -2), (0, 1, -1))), (0, 1)), (0, 1, 2))

    def test_prices_against_all_sets(self):
        for web in WEBS + PLAIN:
            prices = least_prices(web)
            self.assertIs(type(prices), dict)
            self.assertTrue(all(type(told) is tuple for told in prices))
            self.assertEqual(prices, own_least(web))

    def test_at_the_bounds(self):
        for web in FULL:
            prices = least_prices(web)
            joins = {}
            for some in subsets(range(16)):
                odds = own_odds(web, some)
                joins[odds] = min(joins.get(odds, 9999), own_price(web, some))
            self.assertEqual(prices, joins)
            for told in list(joins)[:40]:
                self.assertEqual(own_price(web, least_join(web, told)), joins[told])

    def test_a_told_dict_may_be_changed(self):
        web = SMALL_WEBS[10]
        ahead = copy.deepcopy(web)
        first = least_prices(web)
        kept = dict(first)
        first[()] = 77
        first.pop((0, 1))
        first["more"] = 1
        self.assertEqual(least_prices(web), kept)
        first.clear()
        self.assertEqual(least_prices(web), kept)
        self.assertEqual(web, ahead)

    def test_the_same_question_again(self):
        for web in WEBS[:20]:
            ahead = copy.deepcopy(web)
            for told in subsets(range(web[0])):
                first = least_join(web, told)
                least_prices(web)
                again = least_join(web, told)
                self.assertEqual(first is None, again is None)
                if first is not None:
                    self.assertEqual(own_price(web, first), own_price(web, again))
            self.assertEqual(web, ahead)


class LeastPairs(unittest.TestCase):

    def right(self, web, told, least):
        pairs = least_pairs(web, told)
        if told not in least:
            self.assertIsNone(pairs)
            return
        self.assertIs(type(pairs), tuple)
        self.assertEqual(list(pairs), sorted(set(pairs)))
        for pair in pairs:
            self.assertIs(type(pair), tuple)
            self.assertLess(pair[0], pair[1])
        self.assertEqual(tuple(sorted(place for pair in pairs for place in pair)), told)
        ways = [min(own_price(web, way) for way in own_ways(web, p, q)) for p, q in pairs]
        self.assertEqual(sum(ways), least[told])

    def test_against_all_sets(self):
        for web in PLAIN:
            least = own_least(web)
            for told in subsets(range(web[0])):
                self.right(web, told, least)

    def test_plain_ones(self):
        self.assertEqual(least_pairs((1, ()), ()), ())
        self.assertIsNone(least_pairs((1, ()), (0,)))
        web = (4, ((0, 3, 1), (1, 2, 1), (0, 1, 5), (2, 3, 5)))
        self.assertEqual(least_pairs(web, (0, 1, 2, 3)), ((0, 3), (1, 2)))
        self.assertEqual(least_pairs(web, (1, 3)), ((1, 3),))
        self.assertEqual(least_pairs((4, ((0, 2, 9), (1, 3, 9))), (0, 1, 2, 3)), ((0, 2), (1, 3)))
        self.assertIsNone(least_pairs((4, ((0, 2, 9), (1, 3, 9))), (0, 1)))

    def test_at_the_bounds(self):
        for web in FULL[:2]:
            web = plain_of(web)
            least = least_prices(web)
            for told in subsets(range(9))[::5]:
                self.right(web, told, least)

    def test_nothing_is_changed(self):
        for web in PLAIN[:10]:
            ahead = copy.deepcopy(web)
            for told in subsets(range(web[0])):
                least_pairs(web, told)
            self.assertEqual(web, ahead)
