import random

from oddjoins.cutchecker import lets_cut
from oddjoins.cutting import cut_paper
from oddjoins.drawing import drawn_turns

from tests.cuts import cut_verdict, most_weight, own_weight
from tests.flats import some_drawn
from tests.samples import BIG, NO_NUMBERS, NO_SIDES, ODD_THINGS, SMALL_WEBS, deep, plain_of, some_webs, subsets
from tests.verdicts import Asked, spoiled

# A ring of three by 0, 1, 2, one of three by 2, 3, 4, a tail to 5, and 6 without ties.
WEB = (7, ((0, 1, 2), (1, 2, 3), (0, 2, 4), (2, 3, 5), (3, 4, 1), (2, 4, 1), (4, 5, 9)))
# What lacks is 2 of the first ring and 1 of the second.
SIDE = (2, 4)
ROWS = (((0, 1, 2), 2), ((3, 4, 5), 1))
PAPER = ("cut", SIDE, 1, ROWS)

SMALL_THINGS = [thing for thing in ODD_THINGS if type(thing) is not tuple or len(thing) < 9]


class LetsCut(Asked):

    def ask(self, thing, web=WEB):
        fields = self.fields(lets_cut, web, thing)
        self.assertEqual(fields, cut_verdict(web, thing), thing)
        return fields

    def test_papers_let_by(self):
        self.assertIsNone(self.ask(PAPER))
        self.assertIsNone(self.ask(("cut", (0, 1, 3, 5), 1, ROWS)))
        self.assertIsNone(self.ask(("cut", (0, 1, 3, 5, 6), 1, ROWS)))
        self.assertIsNone(self.ask(("cut", SIDE, 2, ROWS + ROWS)))
        self.assertIsNone(self.ask(("cut", SIDE, 1, (ROWS[0][:1] + (1,), ROWS[1], ROWS[0][:1] + (1,)))))
        self.assertIsNone(self.ask(("cut", SIDE, BIG, (((0, 1, 2), 2 * BIG), ((3, 4, 5), BIG)))))
        self.assertIsNone(self.ask(("cut", SIDE, 3, (((0, 1, 2), 6), ((3, 4, 5), 2), ((3, 4, 5), 1)))))
        self.assertIsNone(self.ask(("cut", (), 1, ()), (1, ())))
        self.assertIsNone(self.ask(("cut", (0, 2), 7, ()), (3, ())))
        self.assertIsNone(self.ask(("cut", (), 1, ()), (3, ((0, 1, 0), (1, 2, 0), (0, 2, 0)))))
        self.assertIsNone(self.ask(("cut", (0,), 1, ()), (2, ((0, 1, 5), (0, 1, 6)))))

    def test_shapes(self):
        wrong = [list(PAPER), PAPER[:3], PAPER + ((),), PAPER[1:], ("Cut",) + PAPER[1:], (None,) + PAPER[1:],
                 ("least",) + PAPER[1:], ("cut", SIDE), ("cut", SIDE, (1, ROWS)), ("cut", SIDE, 0, ROWS),
                 ("cut", SIDE, -1, ROWS), ("cut", SIDE, 1, list(ROWS)), ("cut", SIDE, 1, (list(ROWS[0]),)),
                 ("cut", SIDE, 1, ROWS[0]), ("cut", SIDE, 1, ROWS + ((0, 1, 2),)), ("cut", SIDE, 1, ROWS + (((0,),),)),
                 ("cut", SIDE, 1, ROWS + (((0, 1, 2), 1, 1),)), ("cut", SIDE, 1, ROWS + ((1, (0, 1, 2)),)),
                 ("cut", (7,), 1, ROWS), ("cut", SIDE, 1, (((7,), 1),)), ("cut", SIDE, 1, (((0, 1, 7), 1),))]
        wrong += [("cut", side, 1, ROWS) for side in NO_SIDES]
        wrong += [("cut", SIDE, bottom, ROWS) for bottom in NO_NUMBERS]
        wrong += [("cut", SIDE, 1, (((0,), 1), ((0, 1, 2), share))) for share in NO_NUMBERS + [0, -1]]
        wrong += [("cut", SIDE, 1, (((0,), 1), (some, 1))) for some in NO_SIDES]
        wrong += [("cut", SIDE, 1, thing) for thing in NO_NUMBERS if thing != ()]
        for thing in wrong + ODD_THINGS:
            self.assertEqual(self.ask(thing), ("shape", 0), thing)
        for thing in SMALL_THINGS + [deep(tuple, 28), deep(list, 28)]:
            for bent in (("cut", thing, 1, ROWS), ("cut", SIDE, thing, ROWS), ("cut", SIDE, 1, thing),
                         ("cut", SIDE, 1, (thing,)), ("cut", SIDE, 1, ((thing, 1),)), ("cut", SIDE, 1, (((0,), thing),)),
                         (thing,) + PAPER[1:]):
                self.ask(bent)

    def test_400_rows_and_401(self):
        rows = (((0, 1, 2), 2),) * 200 + (((3, 4, 5), 1),) * 200
        self.assertIsNone(self.ask(("cut", SIDE, 200, rows)))
        self.assertEqual(self.ask(("cut", SIDE, 200, rows + rows[:1])), ("shape", 0))
        self.assertEqual(self.ask(("cut", SIDE, 200, rows[1:] + (((0,), 1),))), ("row", 399))
        self.assertEqual(self.ask(("cut", SIDE, 200, rows[1:])), ("sum", 0))

    def test_rows(self):
        for some in ((), (0,), (0, 1), (0, 1, 3), (3, 4), (0, 1, 2, 3, 4, 5), (0, 1, 2, 6), (6,)):
            for share in (1, 99):
                self.assertEqual(self.ask(("cut", SIDE, 1, ROWS + ((some, share),))), ("row", 2), some)
                self.assertEqual(self.ask(("cut", SIDE, 1, ((some, share),) + ROWS)), ("row", 0), some)
                self.assertEqual(self.ask(("cut", (), 1, (((0, 1, 2), 99), (some, share), ((), 1)))), ("row", 1), some)

    def test_ties(self):
        for rows, t in (((((0, 1, 2), 3),), 0), ((((3, 4, 5), 2),), 4), ((((3, 4, 5), 2), ((0, 1, 2), 3)), 0),
                        ((((0, 1, 2), 2), ((0, 1, 2), 1)), 0), ((((0, 1, 2), 2), ((3, 4, 5), 6)), 3)):
            for side in (SIDE, (), (6,)):
                self.assertEqual(self.ask(("cut", side, 1, rows)), ("tie", t), rows)
        self.assertEqual(self.ask(("cut", SIDE, 2, (((0, 1, 2), 5),))), ("tie", 0))
        self.assertEqual(self.ask(("cut", SIDE, BIG, (((0, 1, 2), 2 * BIG + 1),))), ("tie", 0))
        # Ties of nought bear nothing.
        web = (3, ((0, 1, 0), (1, 2, 4), (0, 2, 4)))
        self.assertEqual(self.ask(("cut", (2,), 9, (((0, 1, 2), 1),)), web), ("tie", 0))
        self.assertIsNone(self.ask(("cut", (2,), 9, ()), web))

    def test_sum(self):
        for side, bottom, rows in ((SIDE, 1, ()), (SIDE, 1, ROWS[:1]), (SIDE, 2, ROWS), ((2,), 1, ROWS), ((), 1, ROWS),
                                   ((2, 4, 5), 1, ROWS), (SIDE, BIG, ROWS)):
            self.assertEqual(self.ask(("cut", side, bottom, rows)), ("sum", 0))
        # Another side that weighs as much is let by by the same rows.
        for side in subsets(range(7)):
            due = None if own_weight(WEB, side) == most_weight(WEB) else ("sum", 0)
            self.assertEqual(self.ask(("cut", side, 1, ROWS)), due)

    def test_each_paper_with_one_thing_changed(self):
        for thing in spoiled(PAPER):
            self.ask(thing)

    def test_a_web_that_is_not_flat(self):
        # Each of five places tied to each: what lacks is 4, and shares on rings of three come to less.
        web = (5, tuple((a, b, 1) for a in range(5) for b in range(a + 1, 5)))
        rings = [some for some in subsets(range(10)) if len(some) == 3 and self.is_ring(web, some)]
        self.assertEqual(len(rings), 10)
        rows = tuple((some, 1) for some in rings)
        self.assertEqual(self.ask(("cut", (0, 1), 3, rows), web), ("sum", 0))
        self.assertEqual(self.ask(("cut", (0, 1), 2, rows), web), ("tie", 0))
        # Each of four tied to each: rings of three in halves do.
        web = (4, tuple((a, b, 1) for a in range(4) for b in range(a + 1, 4)))
        rows = tuple((some, 1) for some in subsets(range(6)) if len(some) == 3 and self.is_ring(web, some))
        self.assertIsNone(self.ask(("cut", (0, 1), 2, rows), web))

    def is_ring(self, web, some):
        return cut_verdict(web, ("cut", (), 10 ** 9, ((some, 1),))) == ("sum", 0)

    def test_changed_papers_are_judged_as_told(self):
        source = random.Random(331)
        seen = {}
        for _ in range(1200):
            web, spots = some_drawn(source, (3, 6), (3, 9), 0, source.choice((1, 9)))
            paper = cut_paper(web, drawn_turns(web, spots))
            thing = some_change(source, web, paper)
            fields = self.ask(thing, web)
            seen[fields and fields[0]] = True
            # What is let by is so, whoever wrote it.
            if fields is None:
                self.assertEqual(own_weight(web, thing[1]), most_weight(web))
        self.assertEqual(set(seen), {None, "shape", "row", "tie", "sum"})

    def test_any_rows(self):
        source = random.Random(332)
        let = 0
        for web in [plain_of(web) for web in SMALL_WEBS] + some_webs(333, 60, places=(2, 4), ties=(0, 5), low=0, high=2):
            sets = subsets(range(len(web[1])))
            for _ in range(40):
                rows = tuple((source.choice(sets), source.randint(1, 3)) for _ in range(source.randint(0, 2)))
                thing = ("cut", source.choice(subsets(range(web[0]))), source.randint(1, 2), rows)
                if self.ask(thing, web) is None:
                    let += 1
                    self.assertEqual(own_weight(web, thing[1]), most_weight(web))
        self.assertGreater(let, 50)


def some_change(source, web, paper):
    word, side, bottom, rows = paper
    choice = source.randrange(8)
    some = source.choice(subsets(range(len(web[1]))))
    if choice == 0:
        side = source.choice(subsets(range(web[0])))
    elif choice == 1:
        bottom += source.choice((-2, -1, 1))
    elif choice == 2:
        rows += ((some, 1),)
    elif choice == 3:
        rows = rows[1:]
    elif choice == 4 and rows:
        rows = ((rows[0][0], rows[0][1] + source.choice((-1, 1))),) + rows[1:]
    elif choice == 5 and rows:
        rows = ((some, rows[0][1]),) + rows[1:]
    elif choice == 6:
        bottom, rows = 2 * bottom, rows * 2
    return (word, side, bottom, rows)
