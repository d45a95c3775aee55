import itertools
import random
import unittest

from oddjoins.belowchecker import is_round, lets_below
from oddjoins.belows import below_paper

from tests.samples import BIG, NO_NUMBERS, NO_SIDES, ODD_THINGS, SMALL_WEBS, own_price, some_webs, subsets
from tests.verdicts import Asked, below_verdict, changed, own_is_round, spoiled

WEBS = SMALL_WEBS + some_webs(61, 25, ties=(0, 6)) + some_webs(62, 15, places=(2, 4), ties=(3, 6), low=-2, high=2)

# Two rings that touch at place 2, a tie alike to the first one, a place by itself.
WEB = (6, ((0, 1, 3), (1, 2, -2), (0, 2, 1), (2, 3, 4), (3, 4, -5), (2, 4, 1), (0, 1, 3)))


class IsRound(unittest.TestCase):

    def is_it(self, thing, web=WEB):
        told = is_round(web, thing)
        self.assertIs(type(told), bool)
        return told

    def test_rounds(self):
        for thing in ((0, (0, 1, 2)), (0, (2, 1, 0)), (1, (1, 2, 0)), (2, (3, 4, 5)), (1, (1, 2, 6))):
            self.assertTrue(self.is_it(thing), thing)

    def test_two_alike_ties(self):
        for thing in ((0, (0, 6)), (0, (6, 0)), (1, (0, 6)), (1, (6, 0))):
            self.assertTrue(self.is_it(thing), thing)
        self.assertFalse(self.is_it((2, (0, 6))))

    def test_a_place_twice(self):
        self.assertTrue(self.is_it((0, (0, 1, 3, 4, 5, 2))))
        self.assertTrue(self.is_it((3, (3, 2, 0, 1, 5, 4))))

    def test_through_the_start_between(self):
        self.assertTrue(self.is_it((2, (2, 0, 1, 3, 4, 5))))
        self.assertTrue(self.is_it((2, (5, 4, 3, 1, 6, 2))))

    def test_one_tie_gone(self):
        for number in range(7):
            for start in range(6):
                self.assertFalse(self.is_it((start, (number,))))

    def test_a_tie_twice(self):
        for thing in ((0, (0, 0)), (0, (0, 6, 0, 6)), (0, (0, 1, 2, 0, 1, 2)), (0, (0, 1, 1, 6)), (1, (1, 1))):
            self.assertFalse(self.is_it(thing), thing)

    def test_not_closed(self):
        for thing in ((0, (0, 1)), (2, (3, 4)), (0, (0, 1, 3, 4, 5)), (0, (0, 1, 2, 6))):
            self.assertFalse(self.is_it(thing), thing)

    def test_not_walked(self):
        for thing in ((0, (1, 2, 0)), (3, (0, 1, 2)), (5, (0, 1, 2)), (0, (0, 2, 1)), (0, (0, 7)), (0, (-7, 6)),
                      (0, (-1, 0)), (0, (BIG, 0))):
            self.assertFalse(self.is_it(thing), thing)

    def test_no_ties(self):
        for start in list(range(6)) + [6, -1, 99, BIG]:
            self.assertFalse(self.is_it((start, ())))

    def test_a_start_that_is_no_place(self):
        for start in [6, 99, -1, -6, BIG, -BIG] + NO_NUMBERS:
            for row in ((), (0,), (0, 6), (0, 1, 2), (0, 0)):
                self.assertFalse(self.is_it((start, row)), (start, row))

    def test_lists_and_truths(self):
        self.assertTrue(self.is_it((0, (0, 1, 2))))
        for thing in ([0, (0, 1, 2)], (0, [0, 1, 2]), [0, [0, 1, 2]], ([0], (0, 1, 2)), ((0,), (0, 1, 2)),
                      (False, (0, 1, 2)), (0, (False, 1, 2)), (0, (0, True, 2)), (True, (1, 2, 0)), (1, (True, 2, 0)),
                      (0, ((0,), 1, 2)), (0, ([0], 1, 2)), (0, 0, 1, 2), (0, (0, 1, 2), ()), ((0, 1, 2),),
                      (0, "012"), ("0", (0, 1, 2)), (0, (0, 1, "2")), (0, (0, 1, None)), (0, ((0, 1, 2),))):
            self.assertFalse(self.is_it(thing), thing)

    def test_things_of_every_kind(self):
        for thing in ODD_THINGS:
            self.assertFalse(self.is_it(thing), thing)
            self.assertEqual(self.is_it((thing, (0, 1, 2))), own_is_round(WEB, (thing, (0, 1, 2))), thing)
            self.assertFalse(self.is_it((0, thing)), thing)
        for thing in spoiled((0, (0, 1, 3, 4, 5, 2))):
            self.assertEqual(self.is_it(thing), own_is_round(WEB, thing), thing)
        for row in NO_SIDES:
            self.assertEqual(self.is_it((0, row)), own_is_round(WEB, (0, row)), row)

    def test_all_short_rows(self):
        seen = {}
        for web in WEBS:
            for count in range(4):
                for row in itertools.product(range(-1, len(web[1]) + 1), repeat=count):
                    for start in range(-1, web[0] + 1):
                        told = self.is_it((start, row), web)
                        self.assertEqual(told, own_is_round(web, (start, row)), (web, start, row))
                        seen[(told, count)] = True
        self.assertEqual([told for told in sorted(seen) if told[0]], [(True, 2), (True, 3)])


class LetsBelow(Asked):

    def ask(self, thing, web=WEB):
        return self.fields(lets_below, web, thing)

    def test_rings(self):
        for thing in (("ring", 2, (3, 4, 5)), ("ring", 3, (3, 5, 4))):
            web = WEB[:1] + (WEB[1][:3] + ((2, 3, 3),) + WEB[1][4:],)
            self.assertEqual(self.ask(thing), ("price", 0))
            self.assertIsNone(self.ask(thing, web))
        two = (2, ((0, 1, -3), (0, 1, 2)))
        self.assertIsNone(self.ask(("ring", 0, (0, 1)), two))
        self.assertIsNone(self.ask(("ring", 1, (0, 1)), two))

    def test_a_price_of_just_nought(self):
        for price, due in ((-4, None), (-3, ("price", 0)), (-2, ("price", 0))):
            web = (3, ((0, 1, 2), (1, 2, 1), (0, 2, price)))
            self.assertEqual(self.ask(("ring", 0, (0, 1, 2)), web), due)

    def test_ring_ahead_of_price(self):
        web = (3, ((0, 1, -1), (1, 2, -1), (0, 2, 5)))
        for start, row in ((0, (0,)), (0, ()), (0, (0, 0)), (0, (2, 2)), (3, (0, 1, 2)), (0, [0, 1, 2]), (0, (2,)),
                           (False, (0, 1, 2)), (0, (0, True, 2)), ("", ""), (None, None), ([], []), (1, (1, 2)),
                           ((0, (0, 1, 2)), ()), ((), (0, 1, 2)), (0, (0, 1, 3))):
            self.assertEqual(self.ask(("ring", start, row), web), ("ring", 0), (start, row))
        self.assertEqual(self.ask(("ring", 0, (0, 1, 2)), web), ("price", 0))

    def test_none_ones(self):
        web = (3, ((0, 1, -1), (1, 2, 2), (0, 2, 3)))
        self.assertIsNone(self.ask(("none", 1, (((0,), 1),)), web))
        self.assertIsNone(self.ask(("none", 1, (((1,), 1),)), web))
        self.assertIsNone(self.ask(("none", 4, (((1,), 2), ((0, 2), 2))), web))
        self.assertIsNone(self.ask(("none", BIG, ()), (2, ((0, 1, 0),))))
        self.assertIsNone(self.ask(("none", 1, ()), (1, ())))

    def test_none_ones_are_refused_as_the_join_checker_does(self):
        web = (3, ((0, 1, -1), (1, 2, 2), (0, 2, 3)))
        for bottom, rows, due in ((1, (((2,), 1),), ("side", 0)), (1, (((0,), 9), ((), 1)), ("side", 1)),
                                  (1, (((0,), 9), ((2,), 9), ((), 9)), ("side", 1)),
                                  (1, (((0,), 2),), ("tie", 0)), (2, (((0,), 2), ((1,), 1)), ("tie", 0)),
                                  (1, (), ("sum", 0)), (2, (((0,), 1),), ("sum", 0)), (3, (((0,), 2),), ("sum", 0)),
                                  (0, (), ("shape", 0)), (-1, (((0,), 1),), ("shape", 0)),
                                  (True, (((0,), 1),), ("shape", 0)), (1, [((0,), 1)], ("shape", 0)),
                                  (1, (((0,), 1), ((2,), 0)), ("shape", 0)), (1, (((2,), True),), ("shape", 0)),
                                  (1, (((0, 3), 1),), ("shape", 0)), (1, ((0,), 1), ("shape", 0)),
                                  ((), 1, ("shape", 0)), (1, ((2,),), ("shape", 0))):
            self.assertEqual(self.ask(("none", bottom, rows), web), due, (bottom, rows))
        # A tie that is not the first one, of a price above nought.
        self.assertEqual(self.ask(("none", 1, (((0,), 2),)), (3, ((0, 1, -9), (1, 2, 2), (0, 2, 1)))), ("tie", 2))

    def test_none_where_there_is_a_ring(self):
        web = (2, ((0, 1, -3), (0, 1, 2)))
        for rows in ((), (((0,), 2),), (((1,), 2),), (((0,), 1), ((1,), 1))):
            self.assertEqual(self.ask(("none", 1, rows), web), ("sum", 0))
        self.assertEqual(self.ask(("none", 1, (((0,), 3),)), web), ("tie", 1))

    def test_other_kinds_of_bottom_and_rows(self):
        for bottom in NO_NUMBERS + [0, -1]:
            self.assertEqual(self.ask(("none", bottom, ())), ("shape", 0), bottom)
        for rows in NO_SIDES + ODD_THINGS:
            if rows != ():
                self.assertEqual(self.ask(("none", 1, rows)), ("shape", 0), rows)

    def test_shapes(self):
        ring = ("ring", 2, (3, 4, 5))
        for thing in (ring[:2], ring + ((),), ring[1:], list(ring), ("Ring",) + ring[1:], ("rings",) + ring[1:],
                      ("",) + ring[1:], (None,) + ring[1:], (["ring"],) + ring[1:], (("ring",),) + ring[1:],
                      ("ring", (2, (3, 4, 5))), ("none", (1, ())), ("none", (0,)), ("none", 1), ("none",), ("ring",),
                      ("none", 1, (), ()), ["none", 1, ()], ("least", 1, ()), ("least", (), 1, ()), ("None", 1, ()),
                      ("way", 1, ()), (True, 1, ()), ("none", (), 1, ())):
            self.assertEqual(self.ask(thing), ("shape", 0), thing)
        for thing in ODD_THINGS:
            self.assertEqual(self.ask(thing), ("shape", 0), thing)

    def test_spoiled_papers_are_judged_as_told(self):
        for web in (WEB, (3, ((0, 1, -1), (1, 2, 2), (0, 2, 3))), (2, ((0, 1, -3), (0, 1, 2)))):
            for thing in list(spoiled(below_paper(web))) + list(spoiled(("ring", 0, (0, 1, 2)))):
                self.assertEqual(self.ask(thing, web), below_verdict(web, thing), (web, thing))

    def test_changed_papers_are_judged_as_told(self):
        source = random.Random(63)
        seen = {}
        for web in WEBS:
            least = min(own_price(web, even) for even in subsets(range(len(web[1]))) if self.is_even(web, even))
            for _ in range(30):
                thing = some_change(source, web, below_paper(web))
                fields = self.ask(thing, web)
                self.assertEqual(fields, below_verdict(web, thing), (web, thing))
                seen[(thing[0], fields and fields[0])] = True
                # What is let by is so, whoever wrote it.
                if fields is None:
                    self.assertEqual(thing[0] == "ring", least < 0)
        self.assertEqual(set(seen), {("ring", None), ("ring", "ring"), ("ring", "price"), ("none", None),
                                     ("none", "shape"), ("none", "side"), ("none", "tie"), ("none", "sum")})

    def is_even(self, web, some):
        return all(sum(1 for k in some if place in web[1][k][:2]) % 2 == 0 for place in range(web[0]))


def some_change(source, web, paper):
    if paper[0] == "none" and source.random() < 0.8:
        return ("none",) + changed(source, web, ("least", ()) + paper[1:])[2:]
    row = list(range(len(web[1])))
    source.shuffle(row)
    row = tuple(row[:source.randint(0, 4)])
    if paper[0] == "none" or source.random() < 0.5:
        return ("ring", source.randrange(web[0]), row)
    return source.choice([paper, paper[:2] + (paper[2][::-1],), ("ring", source.randrange(web[0]), paper[2]),
                          ("none", source.randint(1, 3), ())])
