import copy
import unittest

from oddjoins.joinchecker import lets_join
from oddjoins.sharing import join_paper

from tests.samples import SMALL_WEBS, joins_by_told, own_parts, own_price, some_webs, subsets
from tests.verdicts import join_verdict

WEBS = (SMALL_WEBS + some_webs(41, 80) + some_webs(42, 40, low=0, high=9) + some_webs(43, 40, low=-1, high=1)
        + some_webs(44, 10, low=0, high=0) + some_webs(45, 10, low=-3, high=-1))
FULL = (some_webs(46, 3, places=(9, 9), ties=(16, 16), low=-99, high=99)
        + some_webs(47, 3, places=(9, 9), ties=(16, 16), low=0, high=99)
        + some_webs(48, 3, places=(9, 9), ties=(14, 16), low=0, high=1)
        + some_webs(49, 2, places=(2, 4), ties=(16, 16), low=-99, high=99))


def figures(thing):
    """How many figures the longest number in thing has."""
    if isinstance(thing, tuple):
        return max([figures(part) for part in thing], default=0)
    return len(str(abs(thing))) if isinstance(thing, int) else 0


class JoinPaper(unittest.TestCase):

    def right(self, web, told):
        paper = join_paper(web, told)
        self.assertIs(type(paper), tuple)
        some_odd = any(len(set(part) & set(told)) % 2 for part in own_parts(web))
        self.assertEqual(paper[0], "none" if some_odd else "least")
        self.assertIsNone(join_verdict(web, told, paper))
        self.assertIs(lets_join(web, told, paper), True)
        self.assertLessEqual(figures(paper), 20)
        return paper

    def test_each_told_of_small_webs(self):
        for web in WEBS:
            by_told = joins_by_told(web)
            for told in subsets(range(web[0])):
                paper = self.right(web, told)
                self.assertEqual(paper[0] == "least", told in by_told)
                if told in by_told:
                    self.assertEqual(own_price(web, paper[1]), min(own_price(web, join) for join in by_told[told]))

    def test_at_the_bounds(self):
        for web in FULL:
            for told in subsets(range(web[0])):
                self.right(web, told)

    def test_halves_are_told_where_they_are_needed(self):
        paper = self.right(SMALL_WEBS[11], (0, 1, 2, 3))
        self.assertGreater(paper[2], 1)

    def test_nothing_is_changed_and_told_again(self):
        for web in WEBS[:20]:
            ahead = copy.deepcopy(web)
            for told in subsets(range(web[0])):
                first = self.right(web, told)
                self.assertEqual(self.right(web, told)[0], first[0])
            self.assertEqual(web, ahead)
