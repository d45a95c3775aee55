import copy
import unittest

from oddjoins.rests import rest_of
from oddjoins.webs import is_set, is_web

from tests.samples import SMALL_WEBS, some_webs, subsets
from tests.verdicts import own_rest

WEB = (5, ((0, 1, 4), (1, 2, -1), (0, 1, 4), (2, 3, 0), (0, 1, 9)))


class RestOf(unittest.TestCase):

    def test_of_none(self):
        self.assertEqual(rest_of(WEB, ()), (WEB, (0, 1, 2, 3, 4)))
        self.assertEqual(rest_of((1, ()), ()), ((1, ()), ()))

    def test_of_all(self):
        self.assertEqual(rest_of(WEB, (0, 1, 2, 3, 4)), ((5, ()), ()))

    def test_of_some(self):
        for some, ties, numbers in (((1,), ((0, 1, 4), (0, 1, 4), (2, 3, 0), (0, 1, 9)), (0, 2, 3, 4)),
                                    ((3, 4), ((0, 1, 4), (1, 2, -1), (0, 1, 4)), (0, 1, 2)),
                                    ((0, 1, 2, 3), ((0, 1, 9),), (4,))):
            self.assertEqual(rest_of(WEB, some), ((5, ties), numbers))

    def test_of_alike_ones(self):
        for some, ties, numbers in (((0,), ((1, 2, -1), (0, 1, 4), (2, 3, 0), (0, 1, 9)), (1, 2, 3, 4)),
                                    ((2,), ((0, 1, 4), (1, 2, -1), (2, 3, 0), (0, 1, 9)), (0, 1, 3, 4)),
                                    ((0, 2), ((1, 2, -1), (2, 3, 0), (0, 1, 9)), (1, 3, 4)),
                                    ((0, 2, 4), ((1, 2, -1), (2, 3, 0)), (1, 3))):
            self.assertEqual(rest_of(WEB, some), ((5, ties), numbers))

    def test_all_sets_of_small_webs(self):
        for web in SMALL_WEBS + some_webs(81, 20, ties=(0, 7)):
            ahead = copy.deepcopy(web)
            for some in subsets(range(len(web[1]))):
                told = rest_of(web, some)
                self.assertEqual(told, own_rest(web, some))
                self.assertIs(type(told), tuple)
                self.assertTrue(is_web(told[0]))
                self.assertTrue(is_set(web, told[1]))
                self.assertEqual(rest_of(web, some), told)
            self.assertEqual(web, ahead)
