import copy
import unittest

from oddjoins.tiechecker import lets_tie
from oddjoins.tiewords import slack_of, tie_paper

from tests.samples import SMALL_WEBS, joins_by_told, least_by_told, own_price, priced, some_webs, subsets
from tests.test_tiechecker import WEB, own_word
from tests.verdicts import tie_verdict

WEBS = SMALL_WEBS + some_webs(121, 30, ties=(1, 8)) + some_webs(122, 20, places=(2, 4), ties=(3, 6), low=-1, high=1)
FULL = (some_webs(123, 3, places=(9, 9), ties=(16, 16), low=-99, high=99)
        + some_webs(124, 2, places=(6, 9), ties=(16, 16), low=-1, high=1))
OPPOSITE = {"always": "never", "never": "always"}


def least_ones(web, joins):
    least = min(own_price(web, join) for join in joins)
    return [join for join in joins if own_price(web, join) == least]


def some_tellings(web):
    """Each told of a web with few places, some of the others."""
    tellings = subsets(range(web[0]))
    return tellings if len(tellings) <= 16 else tellings[::3]


class TiePaper(unittest.TestCase):

    def right(self, web, told, number):
        paper = tie_paper(web, told, number)
        self.assertIs(type(paper), tuple)
        self.assertIsNone(tie_verdict(web, told, number, paper), (web, told, number, paper))
        self.assertIs(lets_tie(web, told, number, paper), True)
        return paper

    def test_small_webs_all_joins_gone_through(self):
        words = {}
        for web in WEBS:
            by_told = joins_by_told(web)
            for told in some_tellings(web):
                for number in range(len(web[1])):
                    paper = self.right(web, told, number)
                    self.assertEqual(paper[0], own_word(web, number, by_told.get(told, [])))
                    key = (paper[0], paper[1][0], paper[2][0])
                    words[key] = words.get(key, 0) + 1
        self.assertEqual(set(words), {("none", "none", "none"), ("always", "least", "none"), ("never", "none", "least"),
                                      ("always", "least", "least"), ("never", "least", "least"),
                                      ("sometimes", "least", "least")})
        self.assertGreater(min(words.values()), 10)

    def test_at_the_bounds(self):
        for web in FULL:
            for number in (0, 7, 15):
                one = least_by_told(web, (number,), ())
                other = least_by_told(web, (), (number,))
                for told in subsets(range(web[0]))[::11] + list(one)[:2] + list(other)[:2]:
                    paper = self.right(web, told, number)
                    prices = [own_price(web, part[1]) if part[0] == "least" else None for part in paper[1:]]
                    self.assertEqual(prices, [one.get(told), other.get(told)])

    def test_nothing_is_changed_and_told_again(self):
        for web in WEBS[:25]:
            ahead = copy.deepcopy(web)
            for told in some_tellings(web):
                for number in range(len(web[1])):
                    first = self.right(web, told, number)
                    kept = copy.deepcopy(first)
                    self.assertEqual(slack_of(web, first), slack_of(web, self.right(web, told, number)))
                    self.assertEqual(first, kept)
            self.assertEqual(web, ahead)


class Slack(unittest.TestCase):

    def test_each_word(self):
        for number, told, word, slack in ((0, (0, 1), "never", 2), (1, (0, 1), "sometimes", 0),
                                          (3, (0, 1), "sometimes", 0), (4, (0, 1), "never", None),
                                          (4, (2, 3), "always", None), (4, (3, 4), "none", None),
                                          (0, (0, 4), "none", None), (2, (0, 2), "always", 2), (1, (1, 2), "always", 4),
                                          (0, (0, 2), "never", 4)):
            paper = tie_paper(WEB, told, number)
            self.assertEqual((paper[0], slack_of(WEB, paper)), (word, slack), (number, told))

    def test_of_papers_that_another_one_wrote(self):
        one = ("least", (0,), 1, ())
        other = ("least", (3,), 1, (((0,), 2), ((1,), 1)))
        self.assertEqual(slack_of(WEB, ("never", one, other)), 2)
        self.assertEqual(slack_of(priced(WEB, 0, -7), ("always", one, other)), 10)
        self.assertEqual(slack_of(priced(WEB, 0, 3), ("sometimes", one, other)), 0)
        self.assertIsNone(slack_of(WEB, ("never", ("none", (3,)), other)))
        self.assertIsNone(slack_of(WEB, ("always", one, ("none", (3,)))))
        self.assertIsNone(slack_of(WEB, ("none", ("none", (3,)), ("none", (4,)))))

    def test_moved_by_the_slack_by_one_less_by_one_more(self):
        seen = {}
        for web in WEBS:
            by_told = joins_by_told(web)
            for told in some_tellings(web):
                for number in range(len(web[1])):
                    paper = tie_paper(web, told, number)
                    slack = slack_of(web, paper)
                    seen[(paper[0], slack is None)] = True
                    if slack is None:
                        self.stays(web, told, number, paper[0], by_told.get(told, []))
                    elif paper[0] == "sometimes":
                        self.assertEqual(slack, 0)
                        self.parts(web, told, number, by_told[told])
                    else:
                        self.moves(web, told, number, paper[0], slack, by_told[told])
        self.assertEqual(set(seen), {("none", True), ("always", True), ("never", True), ("always", False),
                                     ("never", False), ("sometimes", False)})

    def stays(self, web, told, number, word, joins):
        for price in (-1000, -1, 0, 1, 1000):
            moved = priced(web, number, price)
            paper = tie_paper(moved, told, number)
            self.assertEqual(paper[0], word)
            self.assertIsNone(slack_of(moved, paper))
            if joins:
                self.assertEqual(least_ones(moved, joins), least_ones(web, joins))

    def parts(self, web, told, number, joins):
        for step, word in ((1, "never"), (-1, "always")):
            moved = priced(web, number, web[1][number][2] + step)
            paper = tie_paper(moved, told, number)
            self.assertEqual((paper[0], slack_of(moved, paper)), (word, 1))

    def moves(self, web, told, number, word, slack, joins):
        self.assertIs(type(slack), int)
        self.assertGreater(slack, 0)
        ahead = least_ones(web, joins)
        away = 1 if word == "always" else -1
        for step, due, left in ((slack - 1, word, 1), (slack, "sometimes", 0), (slack + 1, OPPOSITE[word], 1)):
            moved = priced(web, number, web[1][number][2] + away * step)
            paper = tie_paper(moved, told, number)
            self.assertEqual((paper[0], slack_of(moved, paper)), (due, left))
            still = [join for join in ahead if join in least_ones(moved, joins)]
            self.assertEqual(still, ahead if step <= slack else [])
