import copy
import unittest

from oddjoins.errors import TooMany
from oddjoins.rings import all_evens, all_joins, rings_of

from tests.samples import SMALL_WEBS, joins_by_told, own_parts, own_turns, some_webs, subsets
from tests.test_walks import own_is_ring

WEBS = SMALL_WEBS + some_webs(3, 60)
# Two places with eleven ties have 1,024 even sets, with twelve 2,048.
JUST = (2, ((0, 1, 1),) * 11)
BEYOND = (2, ((0, 1, 1),) * 12)


class RingsOf(unittest.TestCase):

    def right(self, web, even):
        rings = rings_of(web, even)
        self.assertIs(type(rings), tuple)
        for ring in rings:
            self.assertIs(type(ring), tuple)
            self.assertEqual(len(ring), 2)
            self.assertIs(type(ring[1]), tuple)
            self.assertTrue(own_is_ring(web, *ring), (web, even, ring))
        self.assertEqual(tuple(sorted(number for ring in rings for number in ring[1])), even)
        return rings

    def test_nothing(self):
        for web in WEBS:
            self.assertEqual(rings_of(web, ()), ())

    def test_all_even_sets(self):
        for web in WEBS:
            for even in joins_by_told(web)[()]:
                self.right(web, even)
                self.right(web, even)

    def test_rings_that_touch_at_a_place(self):
        web = (5, ((0, 1, 0), (1, 2, 0), (0, 2, 0), (2, 3, 0), (3, 4, 0), (2, 4, 0)))
        rings = self.right(web, (0, 1, 2, 3, 4, 5))
        self.assertEqual(sorted(sorted(ring[1]) for ring in rings), [[0, 1, 2], [3, 4, 5]])

    def test_rings_of_two_ties(self):
        web = (3, ((0, 1, 0), (0, 1, 0), (1, 2, 0), (0, 1, 0), (1, 2, 0), (0, 1, 0)))
        self.assertEqual(len(self.right(web, (0, 1, 2, 3, 4, 5))), 3)
        self.assertEqual(len(self.right(web, (0, 5))), 1)

    def test_at_the_bounds(self):
        ties = tuple((place, place + 1, 0) for place in range(8)) * 2
        self.right((9, ties), tuple(range(16)))
        for web in some_webs(4, 20, places=(9, 9), ties=(16, 16)):
            for even in all_evens(web):
                self.right(web, even)


class All(unittest.TestCase):

    def test_against_going_through_all_sets(self):
        for web in WEBS:
            own = joins_by_told(web)
            self.assertEqual(all_evens(web), sorted(own[()]))
            for told in subsets(range(web[0])):
                self.assertEqual(all_joins(web, told), sorted(own.get(told, [])))

    def test_how_many_there_are(self):
        for web in WEBS:
            count = 2 ** (len(web[1]) - web[0] + len(own_parts(web)))
            self.assertEqual(len(all_evens(web)), count)
            for told in subsets(range(web[0])):
                some_odd = any(len(set(part) & set(told)) % 2 for part in own_parts(web))
                self.assertEqual(len(all_joins(web, told)), 0 if some_odd else count)

    def test_where_there_is_none(self):
        self.assertEqual(all_joins((3, ((0, 1, 4),)), (0,)), [])
        self.assertEqual(all_joins((3, ((0, 1, 4),)), (0, 2)), [])
        self.assertEqual(all_joins((3, ((0, 1, 4),)), (0, 1)), [(0,)])
        self.assertEqual(all_joins((3, ()), (0, 1, 2)), [])
        self.assertEqual(all_joins((3, ()), ()), [()])
        self.assertEqual(all_evens((1, ())), [()])

    def test_each_join_by_turns_with_an_even_set(self):
        for web in WEBS:
            for told, joins in joins_by_told(web).items():
                evens = all_evens(web)
                self.assertEqual(sorted(own_turns(joins[0], even) for even in evens), all_joins(web, told))

    def test_just_so_many(self):
        evens = all_evens(JUST)
        self.assertEqual(evens, sorted(some for some in subsets(range(11)) if len(some) % 2 == 0))
        self.assertEqual(len(evens), 1024)
        self.assertEqual(all_joins(JUST, (0, 1)), sorted(some for some in subsets(range(11)) if len(some) % 2))
        self.assertEqual(all_joins(JUST, (0,)), [])
        # Many parts: sixteen ties, and just ten base rings.
        web = (9, ((0, 1, 1),) * 6 + ((2, 3, 1),) * 6 + ((4, 5, 1), (5, 6, 1), (6, 7, 1), (7, 8, 1)))
        self.assertEqual(len(all_evens(web)), 1024)

    def refused(self, ask, *asked):
        with self.assertRaises(TooMany) as caught:
            ask(*asked)
        self.assertEqual(caught.exception.word, "sets")

    def test_too_many(self):
        for web in (BEYOND, (3, BEYOND[1]), (2, ((0, 1, 1),) * 16),
                    (9, ((0, 1, 1),) * 6 + ((2, 3, 1),) * 7 + ((4, 5, 1),)),
                    (4, ((0, 1, 1), (0, 2, 1), (0, 3, 1), (1, 2, 1), (1, 3, 1), (2, 3, 1), (0, 1, 1)) * 2)):
            self.refused(all_evens, web)
            for told in ((), (0,), (0, 1), (1,)):
                self.refused(all_joins, web, told)
        self.refused(all_joins, (3, BEYOND[1]), (0, 2))
        self.refused(all_joins, (3, BEYOND[1]), (2,))

    def test_a_told_list_is_the_askers_own(self):
        for web in (JUST, SMALL_WEBS[10]):
            ahead = copy.deepcopy(web)
            for ask in (lambda: all_evens(web), lambda: all_joins(web, (0, 1)), lambda: all_joins(web, ())):
                first = ask()
                self.assertIs(type(first), list)
                self.assertTrue(all(type(some) is tuple for some in first))
                kept = list(first)
                first.reverse()
                first.append("more")
                self.assertEqual(ask(), kept)
                first.clear()
                self.assertEqual(ask(), kept)
            empty = all_joins(web, (0,))
            empty.append(())
            self.assertEqual(all_joins(web, (0,)), [])
            self.assertEqual(web, ahead)
