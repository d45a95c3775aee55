import copy
import itertools
import random
import unittest

from oddjoins.going import gone_counts, row_price, walk_over
from oddjoins.oneways import oneway_walked
from oddjoins.walks import walked

from tests.goings import end_either_way, hangs, own_counts, own_due, own_row_price, some_oneway
from tests.samples import SMALL_WEBS, own_cut, own_is_rising, some_webs

WEBS = SMALL_WEBS + some_webs(201, 40, ties=(0, 8))

# Two rings with place 2 in common, one tie twice, and a tie apart.
WEB = (8, ((0, 1, 4), (1, 2, -3), (0, 2, 5), (2, 3, 0), (3, 4, 7), (2, 4, 99), (2, 4, 99), (5, 6, -99)))


class Counts(unittest.TestCase):

    def test_counts_and_prices(self):
        for row, counts, price in (((), (0,) * 8, 0), ((0,), (1, 0, 0, 0, 0, 0, 0, 0), 4),
                                   ((0, 0, 0), (3, 0, 0, 0, 0, 0, 0, 0), 12),
                                   ((0, 1, 5, 6, 1, 0), (2, 2, 0, 0, 0, 1, 1, 0), 200),
                                   ((6, 5), (0, 0, 0, 0, 0, 1, 1, 0), 198), ((7,) * 400, (0,) * 7 + (400,), -39600),
                                   ((3,) * 399, (0, 0, 0, 399, 0, 0, 0, 0), 0)):
            self.assertEqual(gone_counts(WEB, row), counts)
            self.assertIs(type(gone_counts(WEB, row)), tuple)
            self.assertEqual(row_price(WEB, row), price)
            self.assertIs(type(row_price(WEB, row)), int)

    def test_webs_without_ties(self):
        for many in (1, 9):
            self.assertEqual(gone_counts((many, ()), ()), ())
            self.assertEqual(row_price((many, ()), ()), 0)

    def test_rows_of_walks(self):
        source = random.Random(202)
        for web in WEBS:
            for _ in range(5):
                start, row = some_walk(source, web, source.randrange(web[0]), 12)
                self.assertEqual(gone_counts(web, row), own_counts(web, row))
                self.assertEqual(row_price(web, row), own_row_price(web, row))
                self.assertEqual(sum(gone_counts(web, row)), len(row))

    def test_one_way_webs(self):
        web = (3, ((2, 0, 4), (0, 2, 5), (0, 1, 0), (2, 0, 4)))
        self.assertEqual(gone_counts(web, (0, 1, 3, 1, 0)), (2, 2, 0, 1))
        self.assertEqual(row_price(web, (0, 1, 3, 1, 0)), 22)
        self.assertEqual(oneway_walked(web, 2, (0, 1, 3, 1, 0)), 0)
        self.assertEqual((gone_counts(web, ()), row_price(web, ())), ((0, 0, 0, 0), 0))
        source = random.Random(203)
        for _ in range(40):
            web = some_oneway(source, (1, 9), (0, 16), 99)
            row = tuple(source.randrange(len(web[1])) for _ in range(10 if web[1] else 0))
            self.assertEqual(gone_counts(web, row), own_counts(web, row))
            self.assertEqual(row_price(web, row), own_row_price(web, row))


def some_walk(source, web, start, most):
    place = start
    row = ()
    for _ in range(source.randint(0, most)):
        steps = [number for number, tie in enumerate(web[1]) if place in tie[:2]]
        if not steps:
            break
        step = source.choice(steps)
        row += (step,)
        place = sum(web[1][step][:2]) - place
    return (start, row)


class WalkOver(unittest.TestCase):

    def right(self, web, counts, one, other):
        """What is told is of the sort that is due, and is right; tells which sort."""
        told = walk_over(web, counts, one, other)
        self.assertIs(type(told), tuple)
        self.assertEqual(len(told), 2)
        gone = [number for number, count in enumerate(counts) if count]
        ends = [place for number, count in enumerate(counts) for place in web[1][number][:2] * count] + [one, other]
        odd = [place for place in range(web[0]) if ends.count(place) % 2]
        due = own_due(web, gone, one, other)
        if odd:
            self.assertEqual(told, ("odds", odd[0]))
        elif not hangs(web, gone, due):
            self.assertEqual(told[0], "apart")
            self.assertTrue(own_is_rising(told[1], web[0]))
            self.assertFalse(set(own_cut(web, told[1])) & set(gone))
            self.assertTrue(due & set(told[1]))
            self.assertTrue(due - set(told[1]))
        else:
            self.assertEqual(told[0], "walk")
            self.assertIs(type(told[1]), tuple)
            self.assertEqual(end_either_way(web, one, told[1]), (other, None))
            self.assertEqual(own_counts(web, told[1]), counts)
            self.assertEqual(walked(web, one, told[1]), other)
        return told

    def test_odds(self):
        none = (0,) * 8
        # Counts of nought, the one and the other unlike: the lesser of them, whichever it is.
        for one, other in itertools.permutations(range(8), 2):
            self.assertEqual(self.right(WEB, none, one, other), ("odds", min(one, other)))
        for counts, one, other, place in (((1, 0, 0, 0, 0, 0, 0, 0), 0, 0, 0), ((1, 0, 0, 0, 0, 0, 0, 0), 1, 2, 0),
                                          ((1, 0, 0, 0, 0, 0, 0, 0), 0, 2, 1), ((1, 0, 0, 0, 0, 0, 0, 1), 0, 1, 5),
                                          ((2, 0, 0, 0, 0, 0, 0, 2), 7, 6, 6), ((1, 1, 1, 3, 2, 1, 1, 0), 2, 2, 2),
                                          ((1, 1, 1, 1, 2, 1, 1, 0), 3, 3, 2), ((0, 0, 0, 0, 0, 1, 1, 1), 2, 5, 2)):
            self.assertEqual(self.right(WEB, counts, one, other), ("odds", place), counts)
        # Odds go ahead of what is apart.
        self.assertEqual(self.right(WEB, (0, 0, 0, 0, 0, 0, 0, 1), 0, 0), ("odds", 5))

    def test_apart(self):
        for counts, one, other in (((0, 0, 0, 0, 0, 0, 0, 2), 0, 0), ((2, 0, 0, 0, 0, 0, 0, 0), 2, 2),
                                   ((1, 1, 1, 0, 0, 0, 0, 0), 3, 3), ((1, 1, 1, 0, 0, 0, 0, 2), 0, 0),
                                   ((2, 0, 0, 0, 2, 0, 0, 0), 0, 0), ((1, 0, 0, 0, 2, 0, 0, 0), 0, 1),
                                   ((1, 0, 0, 0, 2, 0, 0, 0), 1, 0), ((1, 1, 1, 0, 0, 0, 0, 0), 7, 7)):
            self.assertEqual(self.right(WEB, counts, one, other)[0], "apart", counts)
        # The one and the other on either side of what is gone.
        web = (4, ((0, 1, 1), (2, 3, 1), (1, 2, 1)))
        self.assertEqual(self.right(web, (1, 1, 0), 0, 0), ("odds", 0))
        self.assertEqual(self.right(web, (2, 2, 0), 1, 1)[0], "apart")
        self.assertEqual(self.right(web, (2, 0, 0), 3, 3)[0], "apart")
        self.assertEqual(self.right(web, (2, 2, 2), 3, 3)[0], "walk")

    def test_the_one_or_the_other_away_from_all_ties(self):
        web = (5, ((0, 1, 1), (1, 2, 1), (0, 2, 1)))
        self.assertEqual(self.right(web, (1, 1, 1), 4, 4)[0], "apart")
        self.assertEqual(self.right(web, (1, 1, 1), 3, 4), ("odds", 3))
        self.assertEqual(self.right(web, (1, 1, 1), 0, 4), ("odds", 0))
        self.assertEqual(self.right(web, (1, 1, 0), 4, 0), ("odds", 2))
        self.assertEqual(self.right(web, (0, 0, 0), 4, 4), ("walk", ()))

    def test_walks(self):
        self.assertEqual(self.right(WEB, (0,) * 8, 7, 7), ("walk", ()))
        self.assertEqual(self.right(WEB, (1, 0, 0, 0, 0, 0, 0, 0), 1, 0), ("walk", (0,)))
        self.assertEqual(self.right(WEB, (12, 0, 0, 0, 0, 0, 0, 0), 1, 1), ("walk", (0,) * 12))
        self.assertEqual(self.right(WEB, (11, 0, 0, 0, 0, 0, 0, 0), 1, 0), ("walk", (0,) * 11))
        for counts, one, other in (((1, 1, 1, 1, 1, 1, 0, 0), 0, 0), ((1, 1, 1, 1, 1, 1, 0, 0), 2, 2),
                                   ((1, 1, 1, 1, 1, 1, 0, 0), 4, 4), ((1, 1, 1, 1, 1, 1, 1, 0), 2, 4),
                                   ((1, 1, 1, 1, 1, 1, 1, 0), 4, 2), ((12, 12, 12, 12, 12, 12, 12, 0), 3, 3),
                                   ((2, 2, 2, 2, 2, 0, 2, 0), 3, 3), ((11, 11, 11, 11, 11, 12, 11, 0), 1, 1)):
            self.assertEqual(self.right(WEB, counts, one, other)[0], "walk", counts)
        full = (9, tuple((place, place + 1, 1) for place in range(8)) * 2)
        self.assertEqual(self.right(full, (12,) * 16, 4, 4)[0], "walk")
        self.assertEqual(self.right(full, (12, 11) * 8, 4, 4)[0], "walk")
        self.assertEqual(self.right((1, ()), (), 0, 0), ("walk", ()))
        self.assertEqual(self.right((3, ()), (), 2, 1), ("odds", 1))

    def test_all_small_counts(self):
        seen = {}
        for web in [web for web in WEBS if len(web[1]) <= 4]:
            for counts in itertools.product(range(3), repeat=len(web[1])):
                for one in range(web[0]):
                    for other in range(web[0]):
                        seen[self.right(web, counts, one, other)[0]] = True
        self.assertEqual(sorted(seen), ["apart", "odds", "walk"])

    def test_counts_of_walks_and_others(self):
        source = random.Random(204)
        seen = {"odds": 0, "apart": 0, "walk": 0}
        for web in WEBS + some_webs(205, 20, places=(9, 9), ties=(14, 16), low=-99, high=99):
            for _ in range(20):
                start, row = some_walk(source, web, source.randrange(web[0]), 60)
                counts = tuple(count if count <= 12 else 12 - count % 2 for count in own_counts(web, row))
                end = end_either_way(web, start, row)[0]
                seen[self.right(web, counts, start, end)[0]] += 1
                seen[self.right(web, counts, source.randrange(web[0]), source.randrange(web[0]))[0]] += 1
                counts = tuple(2 * source.randint(0, 6) for _ in web[1])
                place = source.randrange(web[0])
                seen[self.right(web, counts, place, place)[0]] += 1
                counts = tuple(source.randint(0, 12) for _ in web[1])
                seen[self.right(web, counts, place, source.randrange(web[0]))[0]] += 1
        self.assertTrue(all(count > 100 for count in seen.values()), seen)

    def test_nothing_is_changed_and_told_again(self):
        for web in WEBS[:20]:
            for counts in ((0,) * len(web[1]), (2,) * len(web[1]), (1,) * len(web[1])):
                asked = (web, counts, 0, web[0] - 1)
                ahead = copy.deepcopy(asked)
                for _ in range(2):
                    self.right(*asked)
                self.assertEqual(asked, ahead)
