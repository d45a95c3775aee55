import copy
import unittest

from oddjoins.belowchecker import is_round
from oddjoins.differences import change_by, difference

from tests.samples import SMALL_WEBS, joins_by_told, own_odds, own_price, own_turns, some_webs, subsets
from tests.verdicts import own_is_round

WEBS = SMALL_WEBS + some_webs(151, 25, ties=(0, 7)) + some_webs(152, 20, places=(2, 4), ties=(2, 6), low=-1, high=1)
FULL = some_webs(153, 3, places=(9, 9), ties=(16, 16), low=-99, high=99)

# Two rings that touch at place 2.
WEB = (5, ((0, 1, 1), (1, 2, 2), (0, 2, 4), (2, 3, -8), (3, 4, 16), (2, 4, 32)))


class ChangeBy(unittest.TestCase):

    def test_of_none(self):
        for join in ((), (0,), (0, 1, 2, 3, 4, 5)):
            self.assertEqual(change_by(WEB, join, ()), 0)

    def test_plain_ones(self):
        for join, some, change in (((), (0, 1, 2), 7), ((0, 1, 2), (0, 1, 2), -7), ((0,), (0, 1, 2), 5),
                                   ((3,), (3,), 8), ((), (3,), -8), ((2,), (0, 1, 2), -1),
                                   ((0, 3), (1, 3), 10), ((), (), 0), ((0, 1), (2, 3, 4), 12)):
            self.assertEqual(change_by(WEB, join, some), change, (join, some))

    def test_all_sets(self):
        for web in WEBS:
            ahead = copy.deepcopy(web)
            sets = subsets(range(len(web[1])))
            for join in sets[::3]:
                for some in sets[::2]:
                    change = change_by(web, join, some)
                    self.assertIs(type(change), int)
                    self.assertEqual(change, own_price(web, own_turns(join, some)) - own_price(web, join))
                    self.assertEqual(own_price(web, join) + change, own_price(web, own_turns(join, some)))
            self.assertEqual(web, ahead)

    def test_of_joins_differences(self):
        for web in WEBS:
            for joins in joins_by_told(web).values():
                for one, other in zip(joins, joins[1:]):
                    self.assertEqual(change_by(web, one, own_turns(one, other)),
                                     own_price(web, other) - own_price(web, one))


class Difference(unittest.TestCase):

    def right(self, web, one, other):
        rounds = difference(web, one, other)
        self.assertIs(type(rounds), tuple)
        for part in rounds:
            self.assertTrue(own_is_round(web, part), (web, part))
            self.assertTrue(is_round(web, part))
        ties = [number for _, row in rounds for number in row]
        self.assertEqual(len(ties), len(set(ties)))
        self.assertEqual(tuple(sorted(ties)), own_turns(one, other))
        changes = [change_by(web, one, tuple(sorted(row))) for _, row in rounds]
        self.assertEqual(sum(changes), own_price(web, other) - own_price(web, one))
        return changes

    def test_of_like_ones(self):
        for web in WEBS:
            for join in subsets(range(len(web[1])))[::5]:
                self.assertEqual(difference(web, join, join), ())

    def test_all_joins_of_small_webs(self):
        noughts = 0
        for web in WEBS:
            for joins in joins_by_told(web).values():
                least = min(own_price(web, join) for join in joins)
                for one in joins:
                    for other in joins[::2]:
                        changes = self.right(web, one, other)
                        if own_price(web, one) == least:
                            self.assertTrue(all(change >= 0 for change in changes))
                            if own_price(web, other) == least:
                                self.assertEqual(changes, [0] * len(changes))
                                noughts += len(changes)
        self.assertGreater(noughts, 50)

    def test_rings_that_touch(self):
        self.assertEqual(sorted(self.right(WEB, (), (0, 1, 2, 3, 4, 5))), [7, 40])
        self.assertEqual(sorted(self.right(WEB, (0, 3), (1, 2, 4, 5))), [5, 56])
        self.assertEqual(self.right(WEB, (0,), (1, 2)), [5])

    def test_alike_ties(self):
        self.assertEqual(self.right((2, ((0, 1, 4), (0, 1, 4))), (0,), (1,)), [0])

    def test_at_the_bounds(self):
        for web in FULL:
            sets = {}
            for seed in range(0, 65536, 61):
                some = tuple(k for k in range(16) if seed >> k & 1)
                sets.setdefault(own_odds(web, some), []).append(some)
            for joins in sets.values():
                for one, other in zip(joins, joins[1:]):
                    self.right(web, one, other)

    def test_nothing_is_changed_and_told_again(self):
        for web in WEBS[:20]:
            ahead = copy.deepcopy(web)
            for joins in joins_by_told(web).values():
                first = self.right(web, joins[0], joins[-1])
                self.assertEqual(sum(self.right(web, joins[0], joins[-1])), sum(first))
            self.assertEqual(web, ahead)
