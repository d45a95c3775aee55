import copy
import itertools
import random
import unittest

from oddjoins.errors import NoWalk
from oddjoins.oneways import is_oneway, oneway_over, oneway_walked

from tests.goings import end_one_way, hangs, own_counts, own_due, some_oneway
from tests.samples import BIG, NO_NUMBERS, ODD_THINGS, is_number, own_cut, own_is_rising, refusal
from tests.verdicts import own_is_tuple, spoiled

WEB = (5, ((1, 0, 4), (0, 1, 5), (1, 2, 0), (2, 1, 99), (2, 0, 1), (0, 1, 5), (3, 4, 7), (4, 3, 7)))


def own_is_oneway(thing):
    if not (own_is_tuple(thing, 2) and is_number(thing[0]) and 1 <= thing[0] <= 9 and type(thing[1]) is tuple):
        return False
    if len(thing[1]) > 16:
        return False
    return all(own_is_tuple(tie, 3) and all(is_number(part) for part in tie) and 0 <= tie[0] < thing[0]
               and 0 <= tie[1] < thing[0] and tie[0] != tie[1] and 0 <= tie[2] <= 99 for tie in thing[1])


class IsOneway(unittest.TestCase):

    def ask(self, thing):
        ahead = copy.deepcopy(thing)
        told = is_oneway(thing)
        self.assertIs(told, own_is_oneway(thing), thing)
        self.assertEqual(thing, ahead)
        return told

    def test_right_ones(self):
        for web in (WEB, (1, ()), (9, ()), (2, ((1, 0, 0),)), (2, ((0, 1, 99), (0, 1, 99))), (9, ((8, 0, 99),)),
                    (9, ((0, 8, 3),) * 16), (2, ((0, 1, 1), (1, 0, 1)))):
            self.assertIs(self.ask(web), True)

    def test_bounds(self):
        for web, told in (((0, ()), False), ((-1, ()), False), ((1, ()), True), ((9, ()), True), ((10, ()), False),
                          ((BIG, ()), False), ((9, ((0, 8, 3),) * 16), True), ((9, ((0, 8, 3),) * 17), False),
                          ((9, ((0, 9, 3),)), False), ((9, ((9, 0, 3),)), False), ((9, ((-1, 0, 3),)), False),
                          ((9, ((0, -1, 3),)), False), ((9, ((4, 4, 3),)), False), ((1, ((0, 0, 3),)), False),
                          ((2, ((0, 1, -1),)), False), ((2, ((0, 1, 0),)), True), ((2, ((0, 1, 99),)), True),
                          ((2, ((0, 1, 100),)), False), ((2, ((0, 1, BIG),)), False), ((2, ((0, 1, 3), (0, 2, 3))), False)):
            self.assertIs(self.ask(web), told, web)

    def test_things_of_every_kind(self):
        for thing in ODD_THINGS:
            self.assertIs(self.ask(thing), False)
            self.assertIs(self.ask((thing, ())), thing in (1, 2) and is_number(thing))
            self.assertIs(self.ask((2, thing)), False)
            self.assertIs(self.ask((2, (thing,))), False)
            for k in range(3):
                self.ask((2, (((0, 1, 5)[:k] + (thing,) + (0, 1, 5)[k + 1:]),)))
        for thing in ([5, ()], [5, []], (5, []), (5, [(0, 1, 2)]), (5, ([0, 1, 2],)), (True, ()), (5, ((False, 1, 2),)),
                      (5, ((0, True, 2),)), (5, ((0, 1, True),)), (5, ((0, 1, 2, 3),)), (5, ((0, 1),)), (5,), (5, (), ())):
            self.assertIs(self.ask(thing), False)

    def test_each_thing_within_changed(self):
        for thing in spoiled((3, ((0, 1, 2), (2, 1, 0)))):
            self.ask(thing)


class OnewayWalked(unittest.TestCase):

    def ask(self, start, row, web=WEB):
        ahead = copy.deepcopy(row)
        told, fields = refusal(NoWalk, oneway_walked, web, start, row)
        self.assertEqual(row, ahead)
        if fields is None:
            self.assertIs(type(told), int)
        else:
            self.assertEqual([type(field) for field in fields], [int])
        return told if fields is None else fields

    def test_walked(self):
        for start, row, end in ((0, (), 0), (4, (), 4), (0, (1,), 1), (0, (5,), 1), (1, (0,), 0), (0, (1, 2, 4, 5), 1),
                                (1, (2, 3, 2, 3), 1), (3, (6, 7) * 200, 3), (4, (7, 6) * 199 + (7,), 3)):
            self.assertEqual(self.ask(start, row), end)

    def test_steps_that_cannot_be_gone(self):
        for start, row, k in ((0, (0,), 0), (1, (1,), 0), (0, (1, 1), 1), (0, (1, 2, 4, 0), 3), (2, (1,), 0),
                              (0, (1, 3), 1), (0, (8,), 0), (0, (-1,), 0), (0, (1, -8), 1), (0, (1, BIG), 1),
                              (0, (True,), 0), (0, (1, 0, True), 2), (0, (1, False), 1), (1, (False,), 0),
                              (0, (1, None), 1), (0, (1, "2"), 1), (0, (1, (2,)), 1), (0, (1, [2]), 1),
                              (0, ((1, 2),), 0), (0, (1, 0, 1, 0, 7), 4), (3, (6, 6), 1), (3, (7,), 0),
                              (3, (6, 7) * 199 + (6, 6), 399)):
            self.assertEqual(self.ask(start, row), (k,), row)

    def test_no_rows(self):
        for row in [[], [1], "1", "", None, True, 0, 1, (6, 7) * 200 + (6,), (True,) * 401, (0,) * 50000]:
            for start in range(5):
                self.assertEqual(self.ask(start, row), (0,))
        for thing in ODD_THINGS + NO_NUMBERS:
            self.assertEqual(self.ask(0, thing), self.due(0, thing))

    def due(self, start, row):
        if type(row) is not tuple or len(row) > 400:
            return (0,)
        place = start
        for k, step in enumerate(row):
            if not is_number(step) or not 0 <= step < len(WEB[1]) or WEB[1][step][0] != place:
                return (k,)
            place = WEB[1][step][1]
        return place

    def test_webs_without_ties(self):
        self.assertEqual(self.ask(0, (), (1, ())), 0)
        self.assertEqual(self.ask(0, (0,), (1, ())), (0,))
        self.assertEqual(self.ask(8, (), (9, ())), 8)


class OnewayOver(unittest.TestCase):

    def right(self, web, counts, start):
        told = oneway_over(web, counts, start)
        self.assertIs(type(told), tuple)
        gone = [number for number, count in enumerate(counts) if count]
        uneven = [place for place in range(web[0])
                  if sum(counts[n] for n in gone if web[1][n][0] == place)
                  != sum(counts[n] for n in gone if web[1][n][1] == place)]
        due = own_due(web, gone, start)
        if uneven:
            self.assertEqual(told, ("uneven", uneven[0]))
        elif not hangs(web, gone, due):
            self.assertEqual((told[0], len(told)), ("apart", 2))
            self.assertTrue(own_is_rising(told[1], web[0]))
            self.assertFalse(set(own_cut(web, told[1])) & set(gone))
            self.assertTrue(due & set(told[1]))
            self.assertTrue(due - set(told[1]))
        else:
            self.assertEqual((told[0], len(told)), ("walk", 2))
            self.assertEqual(own_counts(web, told[1]), counts)
            self.assertEqual(end_one_way(web, start, told[1]), (start, None))
            self.assertEqual(oneway_walked(web, start, told[1]), start)
        return told

    def test_uneven(self):
        for counts, place in (((1, 0, 0, 0, 0, 0, 0, 0), 0), ((0, 0, 1, 0, 0, 0, 0, 0), 1), ((1, 1, 0, 0, 0, 0, 1, 0), 3),
                              ((1, 1, 1, 0, 0, 0, 0, 0), 1), ((2, 1, 0, 0, 0, 0, 0, 0), 0), ((0, 0, 0, 0, 0, 0, 2, 1), 3),
                              ((0, 1, 0, 0, 0, 1, 2, 1), 0), ((12, 11, 0, 0, 0, 0, 0, 0), 0)):
            for start in range(5):
                self.assertEqual(self.right(WEB, counts, start), ("uneven", place), counts)

    def test_apart(self):
        for counts, start in (((1, 1, 0, 0, 0, 0, 1, 1), 0), ((1, 1, 0, 0, 0, 0, 1, 1), 3), ((0, 0, 0, 0, 0, 0, 1, 1), 0),
                              ((0, 0, 1, 1, 0, 0, 0, 0), 0), ((1, 1, 0, 0, 0, 0, 0, 0), 2), ((1, 1, 0, 0, 0, 0, 0, 0), 4)):
            self.assertEqual(self.right(WEB, counts, start)[0], "apart")

    def test_walks(self):
        for start in range(5):
            self.assertEqual(self.right(WEB, (0,) * 8, start), ("walk", ()))
        self.assertEqual(self.right((1, ()), (), 0), ("walk", ()))
        for counts, start in (((1, 1, 0, 0, 0, 0, 0, 0), 0), ((2, 1, 0, 0, 0, 1, 0, 0), 1), ((1, 1, 1, 0, 1, 1, 0, 0), 2),
                              ((1, 1, 3, 2, 1, 1, 0, 0), 2), ((12, 12, 12, 12, 0, 0, 0, 0), 2),
                              ((0, 0, 0, 0, 0, 0, 12, 12), 4), ((12, 12, 12, 0, 12, 12, 0, 0), 0)):
            self.assertEqual(self.right(WEB, counts, start)[0], "walk")

    def test_all_small_counts(self):
        seen = {"uneven": 0, "apart": 0, "walk": 0}
        for ties in (6, 5, 4, 3):
            web = (5, WEB[1][8 - ties:])
            for counts in itertools.product(range(3), repeat=ties):
                for start in range(5):
                    seen[self.right(web, counts, start)[0]] += 1
        self.assertTrue(all(seen.values()), seen)

    def test_counts_of_walks_and_others(self):
        source = random.Random(231)
        seen = {"uneven": 0, "apart": 0, "walk": 0}
        for _ in range(400):
            web = some_oneway(source, (1, 7), (4, 16), 9)
            start = source.randrange(web[0])
            row = some_tour(source, web, start, 40)
            counts = own_counts(web, row)
            seen[self.right(web, counts, start)[0]] += 1
            seen[self.right(web, counts, source.randrange(web[0]))[0]] += 1
            seen[self.right(web, tuple(source.randint(0, 2) for _ in web[1]), start)[0]] += 1
        self.assertTrue(all(count > 10 for count in seen.values()), seen)

    def test_nothing_is_changed_and_told_again(self):
        for counts in ((1, 1, 0, 0, 0, 0, 1, 1), (1, 1, 1, 0, 1, 1, 0, 0), (1, 0, 0, 0, 0, 0, 0, 0)):
            asked = (WEB, counts, 0)
            ahead = copy.deepcopy(asked)
            for _ in range(2):
                self.right(*asked)
            self.assertEqual(asked, ahead)


def some_tour(source, web, start, most):
    """The longest row back to start within a row gone at random."""
    place = start
    row = ()
    home = ()
    for _ in range(most):
        steps = [number for number, tie in enumerate(web[1]) if tie[0] == place]
        if not steps:
            break
        row += (source.choice(steps),)
        place = web[1][row[-1]][1]
        home = row if place == start and max(own_counts(web, row)) <= 12 else home
    return home
