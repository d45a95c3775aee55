import copy
import itertools
import unittest

from oddjoins.errors import NoWalk
from oddjoins.walks import is_ring, odd_times, walked

from tests.samples import BIG, ODD_THINGS, SMALL_WEBS, own_odds, some_webs

WEB = (5, ((0, 1, 2), (1, 2, 3), (0, 2, 4), (0, 1, 2), (2, 3, -1)))


def own_walk(web, start, row):
    """The places come to, or how far one comes."""
    places = [start]
    for index, number in enumerate(row):
        ends = list(web[1][number][:2])
        if places[-1] not in ends:
            return index
        ends.remove(places[-1])
        places.append(ends[0])
    return places


def own_is_ring(web, start, row):
    places = own_walk(web, start, row)
    return (isinstance(places, list) and len(row) >= 2 and places[0] == places[-1]
            and len(set(row)) == len(row) and len(set(places)) == len(row))


class Walked(unittest.TestCase):

    def refused(self, web, start, row):
        with self.assertRaises(NoWalk) as caught:
            walked(web, start, row)
        self.assertIs(type(caught.exception.number), int)
        return caught.exception.number

    def test_the_place_that_is_told(self):
        self.assertEqual(walked(WEB, 3, ()), 3)
        self.assertEqual(walked(WEB, 4, ()), 4)
        self.assertEqual(walked(WEB, 0, (0,)), 1)
        self.assertEqual(walked(WEB, 1, (0,)), 0)
        self.assertEqual(walked(WEB, 0, (0, 1, 4)), 3)
        self.assertEqual(walked(WEB, 0, (0, 3, 0, 3)), 0)
        self.assertEqual(walked(WEB, 3, (4, 4, 4, 2)), 0)
        self.assertEqual(walked(WEB, 0, (0,) * 4999), 1)
        self.assertEqual(walked((1, ()), 0, ()), 0)

    def test_all_short_rows(self):
        for web in SMALL_WEBS:
            for start in range(web[0]):
                for count in range(4):
                    for row in itertools.product(range(len(web[1])), repeat=count):
                        own = own_walk(web, start, row)
                        if isinstance(own, list):
                            self.assertEqual(walked(web, start, row), own[-1])
                        else:
                            self.assertEqual(self.refused(web, start, row), own)

    def test_what_is_no_tuple(self):
        for row in ([], [0], None, True, False, 0, -1, 1, "", "0", "01", BIG, [[]]):
            self.assertEqual(self.refused(WEB, 0, row), -1)

    def test_the_first_thing_that_cant_be_gone(self):
        for wrong in (1, 4, -1, -5, -2, 5, 6, BIG, -BIG, True, False, None, "0", "", (0,), [0], (), []):
            self.assertEqual(self.refused(WEB, 0, (wrong,)), 0, wrong)
            self.assertEqual(self.refused(WEB, 0, (0, 0, wrong)), 2, wrong)
            self.assertEqual(self.refused(WEB, 0, (0, 3, wrong, 0, wrong)), 2, wrong)

    def test_truths_where_their_numbers_could_be_gone(self):
        self.assertEqual(walked(WEB, 1, (1, 2, 0)), 1)
        self.assertEqual(self.refused(WEB, 1, (True, 2, 0)), 0)
        self.assertEqual(self.refused(WEB, 1, (1, 2, False)), 2)

    def test_lone_places(self):
        self.assertEqual(self.refused(WEB, 4, (0,)), 0)
        self.assertEqual(self.refused((1, ()), 0, (0,)), 0)

    def test_things_of_every_kind(self):
        for thing in ODD_THINGS:
            if isinstance(thing, tuple):
                if thing != ():
                    self.assertEqual(self.refused((1, ()), 0, thing), 0)
            else:
                self.assertEqual(self.refused(WEB, 0, thing), -1)

    def test_what_is_handed_in_stays(self):
        row = [0, [1]]
        self.refused(WEB, 0, row)
        self.assertEqual(row, [0, [1]])
        row = (0, [1, [2]])
        self.assertEqual(self.refused(WEB, 0, row), 1)
        self.assertEqual(row, (0, [1, [2]]))
        self.assertEqual(self.refused(WEB, 0, row), 1)


class IsRing(unittest.TestCase):

    def test_rings(self):
        for ring in ((0, (0, 3)), (1, (3, 0)), (1, (0, 3)), (0, (0, 1, 2)), (2, (2, 0, 1)), (1, (1, 2, 3)),
                     (2, (1, 3, 2))):
            self.assertIs(is_ring(WEB, ring), True, ring)

    def test_what_is_none(self):
        for thing in ((0, ()), (0, (0,)), (0, (0, 0)), (0, (0, 1)), (0, (0, 1, 2, 3)), (0, (0, 3, 0, 3)),
                      (3, (0, 3)), (3, (4, 4)), (3, (4, 2, 0, 1, 4)), (2, (4, 4)), (4, ()), (5, (0, 3)), (-1, (0, 3)),
                      (-5, (0, 3)), (0, [0, 3]), [0, (0, 3)], (False, (0, 3)), (True, (0, 3)), (0, (False, 3)),
                      (1, (True, 2, 0)), (0, (0, 3), ()), (0,), (), ((0, 3),), (0, 0, 3), (0, (0, "3")), (0, (0, None)),
                      ("0", (0, 3)), (None, (0, 3)), ((0,), (0, 3)), (0, ((0,), (3,))), (0, (0, 8)), (0, (0, -2)),
                      (0, None), (0, True), (0, "03"), (BIG, (0, 3)), (0, (BIG, 3))):
            self.assertIs(is_ring(WEB, thing), False, thing)

    def test_places_twice_on_an_eight(self):
        web = (5, ((0, 1, 0), (1, 2, 0), (0, 2, 0), (2, 3, 0), (3, 4, 0), (2, 4, 0)))
        self.assertIs(is_ring(web, (2, (3, 4, 5))), True)
        self.assertIs(is_ring(web, (2, (2, 0, 1))), True)
        self.assertIs(is_ring(web, (0, (0, 1, 3, 4, 5, 2))), False)
        self.assertIs(is_ring(web, (2, (3, 4, 5, 2, 0, 1))), False)
        web = (3, ((0, 1, 0), (1, 2, 0), (1, 2, 0), (0, 1, 0)))
        self.assertIs(is_ring(web, (0, (0, 1, 2, 3))), False)
        self.assertIs(is_ring(web, (1, (1, 2, 3, 0))), False)
        self.assertIs(is_ring(web, (1, (1, 2))), True)

    def test_all_short_rows(self):
        for web in SMALL_WEBS + some_webs(2, 10, places=(2, 4), ties=(0, 5)):
            for start in range(web[0]):
                for count in range(5):
                    for row in itertools.product(range(len(web[1])), repeat=count):
                        self.assertIs(is_ring(web, (start, row)), own_is_ring(web, start, row), (web, start, row))

    def test_things_of_every_kind(self):
        for thing in ODD_THINGS:
            ahead = copy.deepcopy(thing)
            self.assertIs(is_ring(WEB, thing), False)
            self.assertIs(is_ring(WEB, (0, thing)), False)
            self.assertIs(is_ring(WEB, (thing, (0, 3))), thing in (0, 1) and type(thing) is int)
            self.assertEqual(thing, ahead)


class OddTimes(unittest.TestCase):

    def test_rows(self):
        self.assertEqual(odd_times(()), ())
        self.assertEqual(odd_times((3,)), (3,))
        self.assertEqual(odd_times((3, 3)), ())
        self.assertEqual(odd_times((3, 1, 3, 3)), (1, 3))
        self.assertEqual(odd_times((5, 4, 3, 3, 4, 5)), ())
        self.assertEqual(odd_times((15, 2, 199, 0)), (0, 2, 15, 199))
        self.assertEqual(odd_times((7,) * 4999), (7,))
        self.assertEqual(odd_times((7,) * 5000), ())
        self.assertIs(type(odd_times((1, 0))), tuple)

    def test_odds_of_walks_are_their_ends(self):
        for web in SMALL_WEBS:
            for start in range(web[0]):
                for count in range(5):
                    for row in itertools.product(range(len(web[1])), repeat=count):
                        places = own_walk(web, start, row)
                        if isinstance(places, list):
                            due = tuple(sorted({start} ^ {places[-1]}))
                            self.assertEqual(own_odds(web, odd_times(row)), due)
