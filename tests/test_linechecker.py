import random

from oddjoins.linechecker import lets_line
from oddjoins.lining import line_paper

from tests.goings import hangs, least_going, line_verdict, own_due, own_row_price
from tests.samples import (BIG, NO_NUMBERS, NO_SIDES, ODD_THINGS, SMALL_WEBS, deep, own_turns, plain_of, some_webs,
                           subsets)
from tests.verdicts import Asked, spoiled

WEBS = [plain_of(web) for web in SMALL_WEBS] + some_webs(211, 40, places=(1, 5), ties=(0, 6), low=0, high=3)

# A square with a way across, a tail to 4, and 5 and 6 apart.
WEB = (7, ((0, 1, 2), (1, 2, 3), (2, 3, 2), (0, 3, 4), (0, 2, 1), (3, 4, 5), (5, 6, 1)))
# All ties of the square but the way across, from 0 to 2: as they are needed they have no odds, so 0 and 2 are told.
NEEDED = (0, 1, 2, 3)
ROW = (0, 1, 2, 3, 4)
ROWS = (((0,), 1),)
PAPER = ("line", ROW, 1, ROWS)
APART = (5, 6)


class LetsLine(Asked):

    def ask(self, thing, needed=NEEDED, one=0, other=2, web=WEB):
        fields = self.fields(lets_line, web, needed, one, other, thing)
        self.assertEqual(fields, line_verdict(web, needed, one, other, thing), thing)
        return fields

    def test_lines_let_by(self):
        self.assertIsNone(self.ask(PAPER))
        self.assertIsNone(self.ask(("line", (4, 2, 3, 0, 1), 1, ROWS)))
        self.assertIsNone(self.ask(("line", ROW, 2, (((0,), 1), ((2,), 1)))))
        self.assertIsNone(self.ask(("line", ROW, 3, (((0,), 1), ((1, 2, 3, 4), 1), ((0, 5, 6), 1)))))
        self.assertIsNone(self.ask(("line", ROW, BIG, (((0,), BIG),))))
        self.assertIsNone(self.ask(("line", (4,), 1, ROWS), ()))
        self.assertIsNone(self.ask(("line", (), 9, ()), (), 6, 6))
        self.assertIsNone(self.ask(("line", (), 1, ()), (), 0, 0, (1, ())))
        # There and back over a needed tie, which is twice in the row.
        self.assertIsNone(self.ask(("line", (5, 5), 1, (((4,), 5),)), (5,), 3, 3))
        self.assertIsNone(self.ask(("line", (5,), 1, ()), (5,), 3, 4))
        self.assertIsNone(self.ask(("line", (5,), 1, ()), (5,), 4, 3))
        # More rows than a row may have steps.
        self.assertIsNone(self.ask(("line", ROW, 999, ROWS * 999)))

    def test_shapes(self):
        wrong = [list(PAPER), PAPER[:3], PAPER + ((),), PAPER[1:], ("Line",) + PAPER[1:], (None,) + PAPER[1:],
                 ("apart",) + PAPER[1:], ("line", ROW), ("line", APART), ("apart", APART, ()), ("apart",), ("loose",),
                 ["apart", APART], ["loose", APART], ("line", list(ROW), 1, ROWS), ("line", ROW, 0, ROWS),
                 ("line", ROW, -1, ROWS), ("line", ROW, 1, list(ROWS)), ("line", ROW, 1, (list(ROWS[0]),)),
                 ("line", ROW, 1, (((0,),),)), ("line", ROW, 1, (((0,), 1, 1),)), ("line", ROW, 1, ((0,), 1)),
                 ("line", ROW, 1, ROWS[0]), ("line", ROW, (1, ROWS)), ("line", (0, ROW), 1, ROWS)]
        wrong += [("line", row, 1, ROWS) for row in ((7,), (-1,), (BIG,), (True,), (False,), (None,), ("0",), ((0,),),
                                                      (0, 1, 7), (0, True), (0, [1]), "", 0, None, "01", True)]
        wrong += [("line", ROW, bottom, ROWS) for bottom in NO_NUMBERS]
        wrong += [("line", ROW, 1, ROWS + (((0,), share),)) for share in NO_NUMBERS + [0, -1]]
        wrong += [("line", ROW, 1, (((3,), 1), (side, 1))) for side in NO_SIDES]
        wrong += [(word, side) for word in ("apart", "loose") for side in NO_SIDES + [(7,), (0, 1, 1), (2, 1)]]
        for thing in wrong + ODD_THINGS:
            self.assertEqual(self.ask(thing), ("shape", 0), thing)
            # Not on what is asked for, only on the thing.
            self.assertEqual(self.ask(thing, (), 5, 5), ("shape", 0), thing)

    def test_shapes_at_great_depth(self):
        for thing in (deep(tuple, 30), deep(list, 30), (0,) * 9999, [0] * 9999):
            for bent in (("line", thing, 1, ROWS), ("line", ROW, thing, ROWS), ("line", ROW, 1, thing),
                         ("line", ROW, 1, ((thing, 1),)), ("line", ROW, 1, (((0,), thing),)), ("line", ROW, 1, (thing,)),
                         ("apart", thing), ("loose", thing), (thing, APART), (thing,) + PAPER[1:]):
                self.assertEqual(self.ask(bent), ("shape", 0))

    def test_rows_of_400_and_401(self):
        row = (5,) * 400
        self.assertEqual(self.ask(("line", row, 1, ()), (5,), 3, 3), ("counts", 5))
        self.assertEqual(self.ask(("line", row + (5,), 1, ()), (5,), 3, 4), ("shape", 0))
        self.assertEqual(self.ask(("line", row, 1, ()), (5,), 3, 4), ("walk", 400))
        self.assertEqual(self.ask(("line", row[1:], 1, ()), (5,), 3, 4), ("counts", 5))

    def test_walks(self):
        for row, k in (((1,), 0), ((6,), 0), ((0, 0, 1, 2, 3), 2), ((0, 1, 1, 1, 0), 4), ((0, 1, 4, 5, 3), 3),
                       ((0, 1, 2, 3), 4), ((), 0), ((0,), 1), ((4, 4), 2), (ROW + (4,), 6), (ROW + (0,), 5),
                       ((0, 1, 2, 6, 3), 3)):
            for bottom, rows in ((1, ROWS), (7, ()), (1, (((3,), 9),)), (1, (((0,), 99),))):
                self.assertEqual(self.ask(("line", row, bottom, rows)), ("walk", k), row)
        self.assertEqual(self.ask(("line", (), 1, ()), (), 5, 6), ("walk", 0))
        self.assertEqual(self.ask(("line", ROW, 1, ROWS), NEEDED, 2, 0), ("walk", 0))
        self.assertEqual(self.ask(("line", ROW, 1, ROWS), NEEDED, 0, 0), ("walk", 5))

    def test_counts(self):
        for row, needed, n in (((4,), NEEDED, 0), ((0, 1), NEEDED, 2), ((3, 2), NEEDED, 0), ((3, 2), (1, 2, 3), 1),
                               (ROW + (4, 4), NEEDED, 4), ((0, 0, 0, 1, 2, 3, 4), NEEDED, 0),
                               (ROW + (1, 1), NEEDED, 1), ((0, 0, 4), (), 0), ((4, 1, 1), (), 1), ((4, 1, 1), (0,), 0),
                               ((4, 1, 1), (4,), 1), ((4, 4, 4), (4,), 4), (ROW, NEEDED + (5,), 5), (ROW, (0, 6), 6)):
            for bottom, rows in ((1, ROWS), (7, ()), (1, (((3,), 9),)), (1, (((0,), 99),))):
                self.assertEqual(self.ask(("line", row, bottom, rows), needed), ("counts", n), row)
        # A needed tie twice, another one once are right counts, whatever their price.
        self.assertEqual(self.ask(("line", (0, 0, 4), 1, ()), (0,)), ("sum", 0))
        self.assertEqual(self.ask(("line", (0, 1), 1, ()), (0,)), ("sum", 0))

    def test_odd(self):
        for rows, r in (((((), 1),), 0), ((((3,), 1),), 0), ((((0, 2), 1),), 0), (ROWS + (((5,), 1),), 1),
                        (ROWS + (((0, 1, 2), 99),), 1), ((((0,), 99), ((2,), 99), ((1, 3), 1)), 2),
                        ((((0, 1, 2, 3, 4, 5, 6), 1),), 0), ((((1,), 1), ((3,), 1)), 0)):
            self.assertEqual(self.ask(("line", ROW, 1, rows)), ("odd", r), rows)
        # By the odds of what is needed, by turns with the one and the other.
        self.assertEqual(self.ask(("line", (0, 1), 1, (((0,), 1),)), (0, 1), 0, 2), ("odd", 0))
        self.assertIsNone(self.ask(("line", (0, 4), 1, (((0,), 1),)), (0,), 1, 2))
        self.assertEqual(self.ask(("line", (0, 4), 1, (((1,), 1),)), (0,), 1, 2), ("odd", 0))

    def test_shares(self):
        for rows, n in (((((0,), 2),), 4), ((((0,), 5),), 0), ((((0, 1), 2),), 4), ((((2,), 2),), 4),
                        ((((0,), 1), ((2,), 1)), 4), ((((0, 5), 2),), 4), ((((0, 5), 1), ((2, 6), 1)), 4),
                        ((((0, 1, 3), 6),), 1), ((((0, 3), 3),), 0)):
            self.assertEqual(self.ask(("line", ROW, 1, rows)), ("shares", n), rows)
        self.assertEqual(self.ask(("line", ROW, 2, (((0,), 3),))), ("shares", 4))
        self.assertEqual(self.ask(("line", ROW, BIG, (((0,), BIG + 1),))), ("shares", 4))

    def test_sum(self):
        for bottom, rows in ((1, ()), (2, ROWS), (3, (((0,), 1), ((2,), 1))), (BIG, (((0,), BIG - 1),))):
            self.assertEqual(self.ask(("line", ROW, bottom, rows)), ("sum", 0))
        # Of the same shares a dearer line.
        self.assertEqual(self.ask(("line", ROW[:4] + (0, 1), 1, ROWS)), ("sum", 0))
        self.assertEqual(self.ask(("line", ROW[:4] + (0, 1), 5, (((0,), 5),))), ("sum", 0))

    def test_apart(self):
        self.assertIsNone(self.ask(("apart", APART), (6,)))
        self.assertIsNone(self.ask(("apart", APART), (), 0, 5))
        self.assertIsNone(self.ask(("apart", APART), (), 6, 4))
        self.assertIsNone(self.ask(("apart", (0, 1, 2, 3, 4)), NEEDED + (6,), 5, 5))
        for side, n in (((0,), 0), ((5,), 6), ((0, 1, 2, 3), 5), ((4, 5), 5), ((2,), 1), ((4, 5, 6), 5), ((3, 6), 2)):
            for needed, one, other in (((6,), 0, 2), ((), 0, 0), (NEEDED, 0, 5), ((), 4, 4)):
                self.assertEqual(self.ask(("apart", side), needed, one, other), ("cut", n), side)
        for side in ((), APART, (0, 1, 2, 3, 4), (0, 1, 2, 3, 4, 5, 6)):
            self.assertEqual(self.ask(("apart", side)), ("places", 0))
            self.assertEqual(self.ask(("apart", side), (6,), 5, 6), ("places", 0))
        self.assertEqual(self.ask(("apart", ()), (6,)), ("places", 0))
        self.assertEqual(self.ask(("apart", tuple(range(7))), (6,)), ("places", 0))
        self.assertEqual(self.ask(("apart", (0,)), (), 0, 0, (1, ())), ("places", 0))
        self.assertIsNone(self.ask(("apart", (0,)), (), 0, 1, (2, ())))

    def test_loose(self):
        self.assertIsNone(self.ask(("loose", (3, 4)), (0, 5)))
        self.assertIsNone(self.ask(("loose", (0, 1, 5)), (0, 5)))
        self.assertIsNone(self.ask(("loose", (2,)), (0,)))
        self.assertIsNone(self.ask(("loose", APART), (6,)))
        for side in ((), (0,), (2,), APART, tuple(range(7))):
            self.assertEqual(self.ask(("loose", side), ()), ("needed", -1))
            self.assertEqual(self.ask(("loose", side), (), 0, 0), ("needed", -1))
        for side, needed, n in (((0,), NEEDED, 0), ((2,), NEEDED, 1), ((3,), NEEDED, 2), ((3,), (3, 5), 3),
                                ((3,), (5,), 5), ((4, 5), (5, 6), 5), ((5,), (5, 6), 6)):
            self.assertEqual(self.ask(("loose", side), needed), ("needed", n), side)
        for side in ((), (4,), (4, 5, 6), (0, 1, 2, 3), tuple(range(7)), (5,)):
            self.assertEqual(self.ask(("loose", side)), ("places", 0), side)
        self.assertEqual(self.ask(("loose", (0, 2)), (4,)), ("places", 0))

    def test_each_paper_with_one_thing_changed(self):
        for paper, needed, one, other in ((PAPER, NEEDED, 0, 2), (("apart", APART), (6,), 0, 2),
                                          (("loose", (3, 4)), (0, 5), 0, 2), (("line", (5, 5), 2, (((4,), 10),)), (5,), 3, 3)):
            for thing in spoiled(paper):
                self.ask(thing, needed, one, other)

    def test_changed_papers_are_judged_as_told(self):
        source = random.Random(212)
        seen = {}
        for web in WEBS:
            for _ in range(30):
                needed = source.choice(subsets(range(len(web[1]))))
                one, other = source.randrange(web[0]), source.randrange(web[0])
                thing = some_change(source, web, line_paper(web, needed, one, other))
                fields = self.ask(thing, needed, one, other, web)
                seen[(thing[0], fields and fields[0])] = True
                if fields is None:
                    self.is_so(web, needed, one, other, thing)
        due = {("line", word) for word in (None, "walk", "counts", "odd", "shares", "sum")}
        due |= {("apart", word) for word in (None, "cut", "places")}
        due |= {("loose", word) for word in (None, "needed", "places")}
        self.assertEqual(due - set(seen), set())

    def is_so(self, web, needed, one, other, thing):
        """What is let by is so, whoever wrote it."""
        least = least_going(web, needed, one, other, False)
        if thing[0] == "line":
            self.assertEqual(own_row_price(web, thing[1]), least)
        elif thing[0] == "apart":
            self.assertIsNone(least)
        else:
            self.assertFalse(hangs(web, needed, own_due(web, needed, one, other)))


def some_change(source, web, paper):
    side = source.choice(subsets(range(web[0])))
    if source.randrange(12) == 0:
        return (source.choice(("apart", "loose")), side)
    if paper[0] != "line":
        word = source.choice((paper[0], paper[0], "apart", "loose"))
        return (word, source.choice((paper[1], own_turns(range(web[0]), paper[1]), side)))
    word, row, bottom, rows = paper
    choice = source.randrange(8)
    if choice == 0 and row:
        k = source.randrange(len(row))
        row = row[:k] + (source.randrange(len(web[1])),) + row[k + 1:]
    elif choice == 1 and row:
        row = row + row[-1:] * source.choice((1, 2))
    elif choice == 2:
        row = row[:source.randint(0, len(row))]
    elif choice == 3:
        rows += ((side, source.randint(1, 2)),)
    elif choice == 4 and rows:
        rows = ((rows[0][0], rows[0][1] + 1),) + rows[1:]
    elif choice == 5:
        rows = rows[1:]
    elif choice == 6:
        bottom, rows = 2 * bottom, rows * 2
    return (word, row, bottom, rows)
