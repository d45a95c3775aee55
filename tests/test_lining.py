import copy
import random
import unittest

from oddjoins.linechecker import lets_line
from oddjoins.lining import line_paper

from tests.goings import hangs, least_going, line_verdict, own_due, own_row_price
from tests.samples import SMALL_WEBS, plain_of, some_webs, subsets

WEBS = ([plain_of(web) for web in SMALL_WEBS] + some_webs(221, 30, places=(1, 6), ties=(0, 6), low=0, high=9)
        + some_webs(222, 20, places=(2, 5), ties=(2, 6), low=0, high=1)
        + some_webs(223, 10, places=(2, 6), ties=(3, 6), low=0, high=0))
FULL = some_webs(224, 6, places=(9, 9), ties=(14, 16), low=0, high=99) + some_webs(225, 4, places=(7, 9), ties=(16, 16),
                                                                                 low=0, high=1)


class LinePaper(unittest.TestCase):

    def right(self, web, needed, one, other):
        """The paper is let by and of the sort that is due; tells its sort."""
        paper = line_paper(web, needed, one, other)
        self.assertIsNone(line_verdict(web, needed, one, other, paper), (web, needed, one, other, paper))
        self.assertIs(lets_line(web, needed, one, other, paper), True)
        due = own_due(web, needed, one, other)
        if not hangs(web, range(len(web[1])), due):
            self.assertEqual(paper[0], "apart")
        elif needed == () or hangs(web, needed, due):
            self.assertEqual(paper[0], "line")
        else:
            self.assertIn(paper[0], ("line", "loose"))
        return paper

    def priced(self, web, needed, one, other):
        """And a line is of least price, by going through all; there is none just where it is apart."""
        paper = self.right(web, needed, one, other)
        least = least_going(web, needed, one, other, False)
        self.assertEqual(least is None, paper[0] == "apart")
        if paper[0] == "line":
            self.assertEqual(own_row_price(web, paper[1]), least)

    def test_all_of_small_webs(self):
        for web in WEBS:
            if len(web[1]) <= 4:
                for needed in subsets(range(len(web[1]))):
                    for one in range(web[0]):
                        for other in range(web[0]):
                            self.priced(web, needed, one, other)

    def test_some_of_others(self):
        source = random.Random(226)
        for web in WEBS:
            for _ in range(12):
                self.priced(web, source.choice(subsets(range(len(web[1])))), source.randrange(web[0]),
                            source.randrange(web[0]))

    def test_tours_over_every_tie(self):
        for web in WEBS:
            every = tuple(range(len(web[1])))
            for place in range(web[0]):
                self.priced(web, every, place, place)
        for web in FULL:
            every = tuple(range(len(web[1])))
            self.assertEqual(self.right(web, every, web[1][0][0], web[1][0][0])[0],
                             "line" if hangs(web, every, own_due(web, every)) else "apart")

    def test_nothing_needed(self):
        for web in WEBS + FULL:
            for one in range(web[0]):
                for other in range(web[0]):
                    self.priced(web, (), one, other)
                    if one == other:
                        self.assertEqual(line_paper(web, (), one, other)[:2], ("line", ()))

    def test_full_webs(self):
        source = random.Random(227)
        for web in FULL:
            for _ in range(10):
                needed = tuple(sorted(source.sample(range(len(web[1])), source.randint(0, 7))))
                self.priced(web, needed, source.randrange(9 if web[0] == 9 else 7), source.randrange(7))
            for _ in range(10):
                needed = tuple(sorted(source.sample(range(len(web[1])), source.randint(8, len(web[1])))))
                self.right(web, needed, source.randrange(7), source.randrange(7))

    def test_plain_ones(self):
        # A square, each tie once; with a way across there and back.
        web = (5, ((0, 1, 2), (1, 2, 3), (2, 3, 2), (0, 3, 4), (0, 2, 1)))
        self.assertEqual(own_row_price(web, line_paper(web, (0, 1, 2, 3), 1, 1)[1]), 11)
        self.assertEqual(own_row_price(web, line_paper(web, (0, 1, 2, 3, 4), 1, 1)[1]), 13)
        self.assertEqual(own_row_price(web, line_paper(web, (0, 1, 2, 3, 4), 2, 0)[1]), 12)
        self.assertEqual(line_paper(web, (4,), 0, 2)[1], (4,))
        self.assertEqual(line_paper(web, (4,), 0, 0)[1], (4, 4))
        self.assertEqual(line_paper(web, (), 0, 4)[0], "apart")
        self.assertEqual(line_paper(web, (0, 2), 0, 1)[0], "loose")

    def test_rings_of_nought_apart_are_left_out(self):
        # Two least ways for nought, from 0 to 1 and from 2 to 3, by turns leave the ring of 4, 5, 6 and 7 apart.
        web = (9, ((4, 6, 0), (6, 7, 0), (4, 5, 0), (5, 7, 0), (0, 3, 0), (0, 4, 0), (1, 7, 0), (1, 2, 0),
                   (0, 8, 9), (1, 8, 9), (2, 8, 9), (3, 8, 9)))
        self.priced(web, (8, 9, 10, 11), 8, 8)
        self.assertEqual(line_paper(web, (8, 9, 10, 11), 8, 8)[0], "line")
        source = random.Random(228)
        for _ in range(150):
            web = some_webs(source.randrange(10 ** 6), 1, places=(7, 9), ties=(12, 16), low=0, high=0)[0]
            needed = tuple(sorted(source.sample(range(len(web[1])), source.randint(0, 3))))
            for one in range(web[0]):
                self.right(web, needed, one, source.randrange(web[0]))

    def test_nothing_is_changed_and_told_again(self):
        for web in WEBS[:20]:
            for needed in subsets(range(len(web[1])))[:6]:
                asked = (web, needed, 0, web[0] - 1)
                ahead = copy.deepcopy(asked)
                for _ in range(2):
                    self.priced(*asked)
                self.assertEqual(asked, ahead)
