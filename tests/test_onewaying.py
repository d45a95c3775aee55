import copy
import random
import unittest

from oddjoins.onewaychecker import lets_oneway
from oddjoins.onewaying import oneway_paper

from tests.goings import hangs, leads_to, least_going, oneway_verdict, own_due, own_row_price, some_oneway
from tests.samples import subsets

WEBS = [(1, ()), (3, ()), (2, ((0, 1, 5),)), (2, ((1, 0, 5),)), (2, ((0, 1, 3), (1, 0, 3), (1, 0, 0))),
        (3, ((0, 1, 1), (1, 2, 1), (2, 0, 1))), (4, ((0, 1, 0), (1, 0, 0), (2, 3, 0), (3, 2, 0)))]


def drawn(seed, count, places, ties, high):
    source = random.Random(seed)
    return [some_oneway(source, places, ties, high) for _ in range(count)]


class OnewayPaper(unittest.TestCase):

    def right(self, web, needed, start):
        """The paper is let by and of the sort that is due; tells it."""
        paper = oneway_paper(web, needed, start)
        self.assertIsNone(oneway_verdict(web, needed, start, paper), (web, needed, start, paper))
        self.assertIs(lets_oneway(web, needed, start, paper), True)
        due = own_due(web, needed, start)
        sorts = []
        if any(start not in leads_to(web, place) for place in due):
            sorts.append("stuck")
        if not due <= leads_to(web, start):
            sorts.append("shut")
        if not sorts:
            sorts = ["tour"] if needed == () or hangs(web, needed, due) else ["tour", "loose"]
        self.assertIn(paper[0], sorts)
        return paper

    def priced(self, web, needed, start):
        """And a tour is of least price, by going through all; there is none just where it is stuck or shut."""
        paper = self.right(web, needed, start)
        least = least_going(web, needed, start, start, True)
        self.assertEqual(least is None, paper[0] in ("stuck", "shut"))
        if paper[0] == "tour":
            self.assertEqual(own_row_price(web, paper[1]), least)
        return paper[0]

    def test_all_of_small_webs(self):
        seen = {}
        for web in WEBS + drawn(251, 40, (2, 4), (1, 6), 5):
            for needed in subsets(range(len(web[1]))):
                for start in range(web[0]):
                    seen[self.priced(web, needed, start)] = True
        self.assertEqual(sorted(seen), ["loose", "shut", "stuck", "tour"])

    def test_some_of_others(self):
        source = random.Random(252)
        tours = 0
        for high in (0, 1, 9, 99):
            for web in drawn(253 + high, 60, (3, 7), (6, 12), high):
                for _ in range(6):
                    needed = tuple(sorted(source.sample(range(len(web[1])), source.randint(0, min(8, len(web[1]))))))
                    tours += self.priced(web, needed, source.randrange(web[0])) == "tour"
        self.assertGreater(tours, 300)

    def ring_web(self, source, many, ties, high):
        """A web in which each place leads to each: a ring and others."""
        ring = [(place, (place + 1) % many, source.randint(0, high)) for place in range(many)]
        others = [tuple(source.sample(range(many), 2)) + (source.randint(0, high),) for _ in range(ties - many)]
        found = ring + others
        source.shuffle(found)
        return (many, tuple(found))

    def test_tours_over_every_tie(self):
        source = random.Random(254)
        for high in (0, 1, 9):
            for _ in range(40):
                many = source.randint(2, 6)
                web = self.ring_web(source, many, source.randint(many, 10), high)
                self.assertEqual(self.priced(web, tuple(range(len(web[1]))), source.randrange(many)), "tour")
        for _ in range(60):
            web = self.ring_web(source, 9, 16, source.choice((0, 1, 99)))
            self.assertEqual(self.right(web, tuple(range(16)), source.randrange(9))[0], "tour")

    def test_nothing_needed(self):
        for web in WEBS + drawn(255, 40, (1, 9), (0, 16), 9):
            for start in range(web[0]):
                self.assertEqual(self.right(web, (), start)[:2], ("tour", ()))

    def test_full_webs(self):
        source = random.Random(256)
        for web in drawn(257, 40, (9, 9), (16, 16), 99) + [self.ring_web(source, 9, 16, 9) for _ in range(40)]:
            for _ in range(6):
                needed = tuple(sorted(source.sample(range(16), source.randint(0, 16))))
                self.right(web, needed, source.randrange(9))

    def test_many_times_along_one_tie(self):
        # Fifteen needed ties lead from 0 to 1; each time there is only one tie back.
        web = (2, ((0, 1, 7),) * 15 + ((1, 0, 99),))
        paper = self.right(web, tuple(range(15)), 0)
        self.assertEqual(own_row_price(web, paper[1]), 15 * 106)
        # And a long way back.
        web = (9, ((0, 1, 99),) * 8 + tuple((place, (place + 1) % 9, 99) for place in range(1, 9)))
        paper = self.right(web, tuple(range(8)), 0)
        self.assertEqual(len(paper[1]), 8 * 9)

    def test_plain_ones(self):
        web = (5, ((0, 1, 2), (1, 2, 3), (2, 0, 4), (2, 1, 1), (2, 3, 6), (4, 0, 1)))
        self.assertEqual(own_row_price(web, oneway_paper(web, (0, 1, 3), 0)[1]), 13)
        self.assertEqual(oneway_paper(web, (4,), 0)[0], "stuck")
        self.assertEqual(oneway_paper(web, (5,), 0)[0], "shut")
        self.assertIn(oneway_paper(web, (4, 5), 0)[0], ("stuck", "shut"))
        self.assertEqual(oneway_paper(web, (3,), 0)[0], "loose")
        self.assertEqual(oneway_paper(web, (), 4)[:2], ("tour", ()))

    def test_rings_of_nought_apart_are_left_out(self):
        # Led from 0 to 2 and then from 1 to 3, what is gone beyond leaves the ring of 4, 5, 6 and 7 apart.
        web = (8, ((6, 1, 0), (6, 7, 0), (7, 4, 0), (0, 4, 0), (0, 3, 0), (4, 5, 0), (5, 6, 0), (1, 2, 0),
                   (2, 0, 9), (3, 1, 9), (2, 3, 9), (3, 2, 9)))
        for start in (0, 1, 2, 3):
            self.assertEqual(self.priced(web, (8, 9, 10, 11), start), "tour")

    def test_nothing_is_changed_and_told_again(self):
        for web in WEBS:
            for needed in subsets(range(len(web[1]))):
                asked = (web, needed, web[0] - 1)
                ahead = copy.deepcopy(asked)
                for _ in range(2):
                    self.priced(*asked)
                self.assertEqual(asked, ahead)
