import random

from oddjoins.onewaychecker import lets_oneway
from oddjoins.onewaying import oneway_paper

from tests.goings import hangs, least_going, oneway_verdict, own_due, own_row_price, some_oneway
from tests.samples import BIG, NO_NUMBERS, NO_SIDES, ODD_THINGS, deep, own_turns, subsets
from tests.verdicts import Asked, spoiled

# A ring 0, 1, 2 with ways back; 3 leads in alone, 4 is led to alone, 5 and 6 hang together apart.
WEB = (7, ((0, 1, 2), (1, 2, 3), (2, 0, 4), (2, 1, 1), (3, 0, 5), (2, 4, 6), (5, 6, 1), (6, 5, 1)))
# There and back to 1 by 3, once more along tie 1.
ROW = (0, 1, 3, 1, 2)
HEIGHTS = (0, 0, 3, 0, 0, 0, 0)
NEEDED = (0, 1, 3)
TOUR = ("tour", ROW, HEIGHTS)


class LetsOneway(Asked):

    def ask(self, thing, needed=NEEDED, start=0, web=WEB):
        fields = self.fields(lets_oneway, web, needed, start, thing)
        self.assertEqual(fields, oneway_verdict(web, needed, start, thing), thing)
        return fields

    def test_tours_let_by(self):
        # Beyond are tie 1, as it is twice, and tie 2, as it isn't needed.
        heights = (7, 4, 7, 0, 0, 0, 0)
        self.assertEqual(self.ask(("tour", ROW, heights)), ("height", 2))
        self.assertIsNone(self.ask(("tour", ROW, (7, 0, 3, 2, 9, 5, 4))))
        self.assertIsNone(self.ask(("tour", ROW, (7 - BIG, -BIG, 3 - BIG, 2 - BIG, -BIG, BIG, BIG - 1))))
        self.assertIsNone(self.ask(("tour", (), (0,) * 7), ()))
        self.assertIsNone(self.ask(("tour", (), (0,) * 7), (), 4))
        self.assertIsNone(self.ask(("tour", (), (BIG,)), (), 0, (1, ())))
        self.assertIsNone(self.ask(("tour", (0, 1, 2), (0, 0, 0, 0, 0, 0, 0)), (0, 1, 2)))
        self.assertIsNone(self.ask(("tour", (1, 2, 0), (0, 0, 0, 0, 0, 0, 0)), (0, 1, 2), 1))
        self.assertIsNone(self.ask(("tour", (6, 7), (0, 0, 0, 0, 0, 0, 1)), (7,), 5))

    def test_shapes(self):
        wrong = [list(TOUR), TOUR[:2], TOUR + ((),), TOUR[1:], ("Tour",) + TOUR[1:], (None,) + TOUR[1:],
                 ("stuck",) + TOUR[1:], ("tour", ROW), ("tour", (5, 6)), ("stuck", (4,), ()), ("stuck",), ("shut",),
                 ("loose",), ["stuck", (4,)], ["shut", (3,)], ["loose", (4,)], ("apart", (4,)),
                 ("line", ROW, 1, ()), ("tour", list(ROW), HEIGHTS), ("tour", ROW, list(HEIGHTS)),
                 ("tour", ROW, HEIGHTS[1:]), ("tour", ROW, HEIGHTS + (0,)), ("tour", ROW, ()), ("tour", HEIGHTS, ROW)]
        wrong += [("tour", row, HEIGHTS) for row in ((8,), (-1,), (BIG,), (True,), (False,), (None,), ("0",), ((0,),),
                                                      (0, 1, 8), (0, True), (0, [1]), "", 0, None, "01", True)]
        wrong += [("tour", ROW, HEIGHTS[:k] + (thing,) + HEIGHTS[k + 1:]) for thing in NO_NUMBERS for k in (0, 3, 6)]
        wrong += [(word, side) for word in ("stuck", "shut", "loose") for side in NO_SIDES + [(7,), (1, 1), (2, 1)]]
        for thing in wrong + ODD_THINGS:
            self.assertEqual(self.ask(thing), ("shape", 0), thing)
            self.assertEqual(self.ask(thing, (), 5), ("shape", 0), thing)
        for thing in (deep(tuple, 30), deep(list, 30), (0,) * 9999, [0] * 9999):
            for bent in (("tour", thing, HEIGHTS), ("tour", ROW, thing), ("stuck", thing), ("shut", thing),
                         ("loose", thing), (thing, (4,)), (thing, ROW, HEIGHTS)):
                self.assertEqual(self.ask(bent), ("shape", 0))

    def test_rows_of_400_and_401(self):
        self.assertIsNone(self.ask(("tour", (6, 7) * 200, (0,) * 7), (6, 7), 5, (7, WEB[1][:6] + ((5, 6, 0), (6, 5, 0)))))
        self.assertEqual(self.ask(("tour", (6, 7) * 200, (0,) * 7), (6, 7), 5), ("height", 6))
        self.assertEqual(self.ask(("tour", (6, 7) * 200 + (6,), (0,) * 7), (6, 7), 5), ("shape", 0))
        self.assertEqual(self.ask(("tour", (6, 7) * 199 + (6,), (0,) * 7), (6, 7), 5), ("walk", 399))

    def test_walks(self):
        for row, k in (((1,), 0), ((0, 0), 1), ((0, 1, 3, 1, 0), 4), ((0, 1, 3), 3), ((0,), 1), (ROW + (0,), 6),
                       (ROW + (1,), 5), ((0, 1, 2, 4), 3), ((0, 1, 5), 3), ((4,), 0), ((2,), 0), (ROW + (6, 7), 5)):
            for heights in (HEIGHTS, (99,) * 7, (0, 99, 0, 0, 0, 0, 0)):
                self.assertEqual(self.ask(("tour", row, heights)), ("walk", k), row)
        # From the start, whichever it is; and back to it.
        self.assertEqual(self.ask(TOUR, NEEDED, 1), ("walk", 0))
        self.assertEqual(self.ask(("tour", (4, 0, 1, 2), HEIGHTS), (4,), 3), ("walk", 4))

    def test_needed(self):
        for row, needed, n in (((), NEEDED, 0), ((), (7,), 7), ((0, 1, 2), NEEDED, 3), ((0, 1, 2), (2, 3, 4, 5), 3),
                               ((0, 1, 2) * 3, (0, 1, 2, 4, 5), 4), (ROW, (0, 5, 6), 5)):
            for heights in (HEIGHTS, (99,) * 7, (0, 99, 0, 0, 0, 0, 0)):
                self.assertEqual(self.ask(("tour", row, heights), needed), ("needed", n), row)

    def test_heights(self):
        right = (7, 0, 3, 2, 9, 5, 4)
        self.assertIsNone(self.ask(("tour", ROW, right)))
        # Prices that are exceeded.
        for place, more, n in ((1, 1, 1), (2, 1, 1), (0, 1, 2), (3, -1, 4), (4, 1, 5), (6, 3, 6), (5, 1, 7), (2, -1, 1)):
            heights = right[:place] + (right[place] + more,) + right[place + 1:]
            self.assertEqual(self.ask(("tour", ROW, heights)), ("height", n), heights)
        # One that isn't met though the tie is beyond: needed and twice, or not needed.
        self.assertEqual(self.ask(("tour", ROW, (6, 0, 2, 1, 8, 5, 4))), ("height", 1))
        self.assertEqual(self.ask(("tour", ROW, (6, 0, 3, 2, 9, 5, 4))), ("height", 2))
        self.assertEqual(self.ask(("tour", ROW, (0,) * 7)), ("height", 1))
        self.assertEqual(self.ask(("tour", (0, 1, 2), (0,) * 7), (0, 1)), ("height", 2))
        self.assertEqual(self.ask(("tour", (0, 1, 2) * 2, (0,) * 7), (0, 1, 2)), ("height", 0))
        # The least tie, though a later one is wrong, too; what isn't gone and not met is right.
        self.assertEqual(self.ask(("tour", (0, 1, 2), (0, 3, 0, 0, 0, 0, 9)), (0, 1)), ("height", 0))
        self.assertEqual(self.ask(("tour", (0, 1, 2), (0, 0, 0, 0, 0, 0, -9)), (0, 1, 2)), ("height", 7))

    def test_stuck(self):
        for side in ((4,), (4, 5, 6)):
            self.assertIsNone(self.ask(("stuck", side), (5,)))
        self.assertIsNone(self.ask(("stuck", (5, 6)), (6,)))
        self.assertIsNone(self.ask(("stuck", (0, 1, 2, 4)), (4,), 3))
        for side in ((0,), (0, 4), tuple(range(7)), (0, 3)):
            self.assertEqual(self.ask(("stuck", side), (5,)), ("start", 0))
        for side in ((), (5, 6), (5,), (3,), (3, 5, 6)):
            self.assertEqual(self.ask(("stuck", side), (5,)), ("places", 0))
        for side, n in (((2,), 2), ((2, 4), 2), ((1, 2), 2), ((2, 3), 2), ((1, 2, 3, 4), 2), ((4, 5), 6), ((3, 4), 4),
                        ((4, 6), 7), ((1,), 1)):
            self.assertEqual(self.ask(("stuck", side), (1, 5)), ("cut", n), side)

    def test_shut(self):
        for side in ((3,), (3, 5, 6)):
            self.assertIsNone(self.ask(("shut", side), (4,)))
        self.assertIsNone(self.ask(("shut", (5, 6)), (7,)))
        self.assertIsNone(self.ask(("shut", (0, 1, 2, 3)), (5,), 4))
        for side in ((0,), (0, 3), tuple(range(7)), (0, 4)):
            self.assertEqual(self.ask(("shut", side), (4,)), ("start", 0))
        for side in ((), (5, 6), (5,), (4,), (4, 5, 6)):
            self.assertEqual(self.ask(("shut", side), (4,)), ("places", 0))
        for side, n in (((1,), 0), ((1, 2), 0), ((2,), 1), ((2, 3), 1), ((3, 4), 5), ((3, 5), 7), ((3, 6), 6)):
            self.assertEqual(self.ask(("shut", side), (1, 4)), ("cut", n), side)
        # What is stuck isn't shut, and the other way round.
        self.assertEqual(self.ask(("shut", (4,)), (5,)), ("cut", 5))
        self.assertEqual(self.ask(("stuck", (3,)), (4,)), ("cut", 4))

    def test_loose(self):
        self.assertIsNone(self.ask(("loose", (1, 2)), (1,)))
        self.assertIsNone(self.ask(("loose", (0,)), (1,)))
        self.assertIsNone(self.ask(("loose", (5, 6)), (6,)))
        for side in ((), (0,), (1,), tuple(range(7))):
            self.assertEqual(self.ask(("loose", side), ()), ("needed", -1))
        for side, n in (((1,), 0), ((2,), 1), ((0, 1), 1), ((0, 2), 0)):
            self.assertEqual(self.ask(("loose", side)), ("needed", n))
        for side in ((), (0, 1, 2), (3,), (3, 4, 5, 6), tuple(range(7)), (5,)):
            self.assertEqual(self.ask(("loose", side)), ("places", 0))

    def test_each_paper_with_one_thing_changed(self):
        for paper, needed, start in ((("tour", ROW, (7, 0, 3, 2, 9, 5, 4)), NEEDED, 0), (("stuck", (4,)), (5,), 0),
                                     (("shut", (3,)), (4,), 0), (("loose", (1, 2)), (1,), 0)):
            self.assertIsNone(self.ask(paper, needed, start))
            for thing in spoiled(paper):
                self.ask(thing, needed, start)

    def test_changed_papers_are_judged_as_told(self):
        source = random.Random(241)
        seen = {}
        for _ in range(1500):
            web = some_oneway(source, (1, 5), (0, 8), 3)
            needed = source.choice(subsets(range(len(web[1]))))
            start = source.randrange(web[0])
            thing = some_change(source, web, oneway_paper(web, needed, start))
            fields = self.ask(thing, needed, start, web)
            seen[(thing[0], fields and fields[0])] = True
            if fields is None:
                self.is_so(web, needed, start, thing)
        due = {("tour", word) for word in (None, "walk", "needed", "height")}
        due |= {(kind, word) for word in (None, "start", "places", "cut") for kind in ("stuck", "shut")}
        due |= {("loose", word) for word in (None, "needed", "places")}
        self.assertEqual(due - set(seen), set())

    def is_so(self, web, needed, start, thing):
        """What is let by is so, whoever wrote it."""
        if thing[0] == "loose":
            self.assertFalse(hangs(web, needed, own_due(web, needed, start)))
        else:
            least = least_going(web, needed, start, start, True)
            self.assertEqual(least, own_row_price(web, thing[1]) if thing[0] == "tour" else None)


def some_change(source, web, paper):
    side = source.choice(subsets(range(web[0])))
    if source.randrange(6) == 0:
        return (source.choice(("stuck", "shut", "loose")), side)
    if paper[0] != "tour":
        word = source.choice((paper[0], paper[0], "stuck", "shut", "loose"))
        return (word, source.choice((paper[1], own_turns(range(web[0]), paper[1]), side)))
    word, row, heights = paper
    choice = source.randrange(6)
    if choice == 0 and row:
        k = source.randrange(len(row))
        row = row[:k] + (source.randrange(len(web[1])),) + row[k + 1:]
    elif choice == 1:
        row = row[:source.randint(0, len(row))]
    elif choice == 2:
        row = row * source.randint(0, 2)
    elif choice == 3:
        k = source.randrange(web[0])
        heights = heights[:k] + (heights[k] + source.choice((-1, 1)),) + heights[k + 1:]
    elif choice == 4:
        heights = tuple(height + 7 for height in heights)
    return (word, row, heights)
