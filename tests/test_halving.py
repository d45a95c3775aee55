import copy
import unittest

from oddjoins.halving import halves_told, lets_halves

from tests.cuts import halves_verdict, most_weight, own_all
from tests.samples import BIG, NO_NUMBERS, NO_SIDES, ODD_THINGS, SMALL_WEBS, deep, plain_of, some_webs, subsets
from tests.verdicts import spoiled

WEBS = ([plain_of(web) for web in SMALL_WEBS] + some_webs(351, 60, places=(1, 7), ties=(0, 9), low=0, high=2)
        + some_webs(352, 20, places=(2, 5), ties=(2, 9), low=0, high=0)
        + some_webs(353, 30, places=(4, 8), ties=(3, 8), low=1, high=9))
FULL = some_webs(354, 10, places=(9, 9), ties=(16, 16), low=0, high=99) + some_webs(355, 6, places=(2, 3), ties=(16, 16),
                                                                                    low=1, high=9)

# A ring of three by 0, 1, 2 and one of four by 0, 2, 3, 4, if tie 5 of nought counted; 5 without ties.
WEB = (6, ((0, 1, 2), (1, 2, 3), (0, 2, 4), (2, 3, 5), (3, 4, 1), (0, 4, 0), (0, 1, 7)))
HALVED = (6, ((0, 1, 2), (1, 2, 3), (0, 2, 0), (2, 3, 5), (3, 4, 1), (0, 4, 0), (0, 1, 7)))

SMALL_THINGS = [thing for thing in ODD_THINGS if type(thing) is not tuple or len(thing) < 9]


class Halves(unittest.TestCase):

    def ask(self, thing, web=WEB):
        ahead = copy.deepcopy(thing)
        told = lets_halves(web, thing)
        self.assertIs(told, halves_verdict(web, thing), thing)
        self.assertEqual(repr(thing), repr(ahead))
        return told

    def test_told_of_webs(self):
        seen = {}
        for web in WEBS + FULL:
            ahead = copy.deepcopy(web)
            for _ in range(2):
                told = halves_told(web)
                self.assertIs(type(told), tuple)
                self.assertTrue(self.ask(told, web), (web, told))
                self.assertEqual(told[0], "halves" if most_weight(web) == own_all(web) else "odd")
                seen[told[0]] = True
            self.assertEqual(web, ahead)
        self.assertEqual(sorted(seen), ["halves", "odd"])

    def test_ties_of_nought_count_for_nothing(self):
        self.assertEqual(halves_told(WEB)[0], "odd")
        self.assertEqual(halves_told(HALVED)[0], "halves")
        self.assertEqual(halves_told((3, ((0, 1, 0), (1, 2, 0), (0, 2, 0))))[0], "halves")
        self.assertEqual(halves_told((3, ((0, 1, 1), (1, 2, 1), (0, 2, 0))))[0], "halves")
        self.assertEqual(halves_told((3, ((0, 1, 1), (1, 2, 1), (0, 2, 1))))[0], "odd")
        for many in (1, 9):
            self.assertEqual(halves_told((many, ()))[0], "halves")

    def test_halves_let_by(self):
        for side in ((1, 3), (0, 2, 4), (1, 3, 5), (0, 2, 4, 5)):
            self.assertIs(self.ask(("halves", side), HALVED), True)
        for side in ((), (1,), (0,), (0, 1, 3), tuple(range(6)), (1, 4)):
            self.assertIs(self.ask(("halves", side), HALVED), False)
        for side in subsets(range(6)):
            self.assertIs(self.ask(("halves", side)), False)
        self.assertIs(self.ask(("halves", ()), (1, ())), True)
        self.assertIs(self.ask(("halves", (0,)), (1, ())), True)

    def test_odd_walks_let_by(self):
        for start, row in ((0, (0, 1, 2)), (1, (1, 2, 0)), (2, (2, 6, 1)), (0, (2, 1, 6)), (1, (0, 2, 1))):
            self.assertIs(self.ask(("odd", start, row)), True)
        # Not closed, not begun there, even, a tie twice, none at all, one of nought.
        for start, row in ((0, (0, 1)), (0, (0,)), (1, (2, 1, 0)), (3, (0, 1, 2)), (0, (0, 6)), (0, ()),
                           (0, (0, 6, 0, 6, 0)), (0, (0, 0, 0, 1, 2)), (0, (2, 3, 4, 5)), (0, (0, 1, 3, 4, 5)),
                           (4, (5, 0, 1, 3, 4)), (5, ()), (0, (0, 6, 2, 2)), (0, (2, 2, 0, 1, 2))):
            self.assertIs(self.ask(("odd", start, row)), False)
        self.assertIs(self.ask(("odd", 0, (0, 1, 2)), HALVED), False)
        # A place may come twice.
        web = (5, ((0, 1, 1), (1, 2, 1), (0, 2, 1), (2, 3, 1), (2, 4, 1), (3, 4, 1), (2, 3, 1), (2, 4, 1)))
        self.assertIs(self.ask(("odd", 0, (0, 1, 3, 6, 2)), web), True)
        self.assertIs(self.ask(("odd", 2, (2, 0, 1, 3, 5, 4)), web), False)

    def test_things_of_every_kind(self):
        odd = ("odd", 0, (0, 1, 2))
        wrong = [list(odd), odd[:2], odd + ((),), odd[1:], ("Odd",) + odd[1:], (None,) + odd[1:], ("halves",) + odd[1:],
                 ("halves",), ("odd",), ["halves", (1, 3)], ("halves", (1, 3), ()), ("odd", (0, 1, 2)),
                 ("odd", 0, [0, 1, 2]), ("odd", (0, (0, 1, 2))), ("odd", False, (0, 1, 2)), ("odd", True, (1, 2, 0)),
                 ("odd", 0, (False, True, 2)), ("odd", 0, (0, True, 2)), ("odd", 0, (0, 1, 7)), ("odd", 0, (0, 1, -5)),
                 ("odd", 0, (0, 1, BIG)), ("odd", 6, ()), ("odd", -1, (0, 1, 2)), ("odd", BIG, (0, 1, 2)),
                 ("odd", 0, (0, 1, "2")), ("odd", 0, (0, 1, (2,))), ("odd", 0, (0, 1, [2])), ("odd", 0, None)]
        wrong += [("halves", side) for side in NO_SIDES] + [("odd", start, (0, 1, 2)) for start in NO_NUMBERS]
        wrong += [("odd", 0, row) for row in NO_NUMBERS + NO_SIDES]
        for thing in wrong + ODD_THINGS:
            self.assertIs(self.ask(thing), False, thing)
            self.ask(thing, HALVED)
        for thing in SMALL_THINGS + [deep(tuple, 28), deep(list, 28)]:
            for bent in (("halves", thing), ("odd", thing, (0, 1, 2)), ("odd", 0, thing), ("odd", 0, (thing, 1, 2)),
                         (thing, 0, (0, 1, 2)), (thing, (1, 3))):
                self.ask(bent)
        for web, paper in ((WEB, odd), (HALVED, ("halves", (1, 3)))):
            self.assertIs(self.ask(paper, web), True)
            for thing in spoiled(paper):
                self.ask(thing, web)

    def test_never_both(self):
        for web in WEBS:
            if web[0] <= 6:
                halved = any(self.ask(("halves", side), web) for side in subsets(range(web[0])))
                self.assertEqual(halved, halves_told(web)[0] == "halves")
                for start, row in rounds(web):
                    if self.ask(("odd", start, row), web):
                        self.assertFalse(halved)


def rounds(web):
    """Some closed walks, gone at most five ties far."""
    found = []
    waiting = [(start, start, ()) for start in range(web[0])]
    while waiting and len(found) < 300:
        start, place, row = waiting.pop()
        if row and place == start:
            found.append((start, row))
        if len(row) < 5:
            waiting += [(start, a + b - place, row + (n,)) for n, (a, b, _) in enumerate(web[1]) if place in (a, b)]
    return found
