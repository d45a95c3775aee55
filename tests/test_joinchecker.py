import copy
import random
import unittest

from oddjoins.errors import NoPaper
from oddjoins.joinchecker import bound_by, lets_join
from oddjoins.sharing import join_paper

from tests.samples import (BIG, NO_NUMBERS, NO_SIDES, ODD_THINGS, SMALL_WEBS, joins_by_told, own_below, own_cut,
                           own_odds, own_parts, own_price, own_turns, refusal, some_webs, subsets)
from tests.verdicts import changed, join_verdict, own_bound, some_row

WEBS = SMALL_WEBS + some_webs(21, 30, ties=(0, 7))


class Asks(unittest.TestCase):
    # A ring of four with prices of either sign, a tail, and two places apart.
    web = (7, ((0, 1, 3), (1, 2, -2), (2, 3, 4), (0, 3, 5), (3, 4, 6), (5, 6, 1)))

    def bound(self, told, thing, web=None):
        answer = refusal(NoPaper, bound_by, web or self.web, told, thing)
        if answer[0] is not None:
            self.assertIs(type(answer[0]), tuple)
        return answer

    def join(self, told, thing, web=None):
        told, fields = refusal(NoPaper, lets_join, web or self.web, told, thing)
        if fields is None:
            self.assertIs(told, True)
        else:
            self.assertIs(type(fields[1]), int)
        return fields


class BoundBy(Asks):
    # The odds of the only tie below 0 are 1 and 2: so the turned told places of (0, 4) are 0, 1, 2, 4.

    def test_shown(self):
        for told, thing, shown in (((0, 4), (1, ()), (-2, 1)), ((0, 4), (7, ()), (-14, 7)), ((), (1, ()), (-2, 1)),
                                   ((0, 4), (1, (((4,), 6),)), (4, 1)), ((0, 4), (2, (((4,), 12),)), (8, 2)),
                                   ((0, 4), (1, (((4,), 2), ((0, 1, 2, 3, 5, 6), 3), ((4, 5, 6), 1))), (4, 1)),
                                   ((0, 4), (3, (((4,), 18), ((0,), 8), ((1,), 1))), (21, 3)),
                                   ((0, 4), (1, (((1,), 1), ((2,), 1))), (0, 1)), ((1, 2), (5, ()), (-10, 5))):
            self.assertEqual(self.bound(told, thing), (shown, None), thing)

    def test_a_side_in_several_rows_and_its_others_beside_it(self):
        rows = (((4,), 1),) * 3 + (((0, 1, 2, 3, 5, 6), 1),) * 3
        self.assertEqual(self.bound((0, 4), (1, ())), ((-2, 1), None))
        self.assertEqual(self.bound((0, 4), (1, rows[:3])), ((1, 1), None))
        self.assertEqual(self.bound((0, 4), (1, rows[3:])), ((1, 1), None))
        self.assertEqual(self.bound((0, 4), (1, rows)), ((4, 1), None))
        self.assertEqual(self.bound((0, 4), (1, rows + rows[:1])), (None, ("tie", 4)))

    def test_great_numbers_and_many_rows(self):
        self.assertEqual(self.bound((0, 4), (BIG, (((4,), 6 * BIG),))), ((4 * BIG, BIG), None))
        self.assertEqual(self.bound((0, 4), (BIG, (((4,), 6 * BIG + 1),))), (None, ("tie", 4)))
        many = (((4,), 1),) * 9000
        self.assertEqual(self.bound((0, 4), (1500, many)), ((6000, 1500), None))
        self.assertEqual(self.bound((0, 4), (1499, many)), (None, ("tie", 4)))

    def test_sides(self):
        for rows, index in (((((), 1),), 0), ((((3,), 1),), 0), ((((0, 1), 1),), 0), ((((4,), 1), ((5,), 1)), 1),
                            ((((4,), 1), ((0, 1, 2, 3, 4, 5, 6), 1)), 1), ((((4,), 99), ((1,), 99), ((3, 5), 99)), 2),
                            ((((0, 3), 999), ((3,), 999), ((5,), 999)), 1)):
            self.assertEqual(self.bound((0, 4), (1, rows)), (None, ("side", index)), rows)
        # What is odd for the told places themselves, but not for the turned ones.
        web = (3, ((0, 1, -1), (1, 2, 4)))
        self.assertEqual(self.bound((0, 2), (1, (((2,), 1),)), web), ((0, 1), None))
        self.assertEqual(self.bound((0, 2), (1, (((0,), 1),)), web), (None, ("side", 0)))
        self.assertEqual(self.bound((0, 2), (1, (((1,), 1),)), web), ((0, 1), None))

    def test_ties(self):
        for rows, number in (((((4,), 7),), 4), ((((0,), 4),), 0), ((((1,), 3),), 1), ((((2,), 3),), 1),
                             ((((4,), 7), ((2,), 3)), 1), ((((0,), 3), ((1,), 1)), 0), ((((4, 5), 2),), 5),
                             ((((4, 5), 7), ((4, 6), 1)), 4)):
            self.assertEqual(self.bound((0, 4), (1, rows)), (None, ("tie", number)), rows)
        self.assertEqual(self.bound((0, 4), (1, (((2,), 2),))), ((0, 1), None))
        self.assertEqual(self.bound((0, 4), (1, (((4, 5), 1),))), ((-1, 1), None))
        self.assertEqual(self.bound((0, 4), (3, (((4,), 18), ((0,), 9), ((1,), 1)))), (None, ("tie", 0)))

    def test_ties_of_nought_bear_nothing(self):
        web = (2, ((0, 1, 0),))
        self.assertEqual(self.bound((0, 1), (9, ()), web), ((0, 9), None))
        self.assertEqual(self.bound((0, 1), (9, (((0,), 1),)), web), (None, ("tie", 0)))

    def test_shapes(self):
        row = ((4,), 1)
        wrong = [[1, ()], (1, []), (1, [row]), (1, (list(row),)), (1, (([4], 1),)), (0, ()), (-1, ()), (1,),
                 (1, (), ()), (1, row), (1, (row, ((4,),))), (1, (row, ((4,), 1, 1))), (1, (row, ((4,), 0))),
                 (1, (row, ((4,), -1))),
                 (1, (row, ())), (1, (row, None)), (1, ((1, (4,)),)), ((), 1), (1, None), (1, True), (1, "")]
        wrong += [(bottom, (row,)) for bottom in NO_NUMBERS]
        wrong += [(1, (row, ((4,), share))) for share in NO_NUMBERS]
        wrong += [(1, (row, (side, 1), row)) for side in NO_SIDES]
        # Shape goes ahead of sides and ties.
        wrong += [(1, (((3,), 1), ((4,), 99), ((4,), True))), (1, (((4,), 99), (4,)))]
        for thing in wrong + [thing for thing in ODD_THINGS if thing != (1, ())]:
            ahead = copy.deepcopy(thing)
            self.assertEqual(self.bound((0, 4), thing), (None, ("shape", 0)), thing)
            self.assertEqual(thing, ahead)

    def test_bounds_hold_for_all_joins(self):
        source = random.Random(22)
        let = 0
        for web in WEBS:
            for told, joins in joins_by_told(web).items():
                for _ in range(6):
                    thing = (source.randint(1, 3), tuple(some_row(source, web) for _ in range(source.randint(0, 3))))
                    answer = self.bound(told, thing, web)
                    self.assertEqual(answer, own_bound(web, told, thing))
                    if answer[1] is None:
                        let += 1
                        for join in joins:
                            self.assertGreaterEqual(own_price(web, join) * answer[0][1], answer[0][0])
        self.assertGreater(let, 100)


class LetsJoin(Asks):
    # The least joins for (0, 4) are (0, 1, 2, 4) and (3, 4), each at 11.
    rows = (((4,), 6), ((0,), 3))

    def test_least_ones(self):
        told = (0, 4)
        bottom, rows = join_paper(self.web, told)[2:]
        for join in ((0, 1, 2, 4), (3, 4)):
            self.assertIsNone(self.join(told, ("least", join, bottom, rows)))
            self.assertIsNone(self.join(told, ("least", join, 3 * bottom, rows * 3)))
        self.assertIsNone(self.join((), ("least", (), 1, ()), (2, ((0, 1, 5),))))
        self.assertIsNone(self.join((0, 1), ("least", (0,), 1, (((0,), 5),)), (2, ((0, 1, 5),))))
        self.assertIsNone(self.join((0, 1), ("least", (0,), 1, (((1,), 2), ((0,), 3))), (2, ((0, 1, 5),))))
        self.assertIsNone(self.join((0, 1), ("least", (0,), 4, ()), (2, ((0, 1, -5),))))
        self.assertIsNone(self.join((), ("least", (), 2, (((1,), 10),)), (2, ((0, 1, -5),))))
        self.assertIsNone(self.join((0, 1), ("least", (0,), 1, ()), (2, ((0, 1, 0),))))

    def test_halves(self):
        web = (4, ((0, 1, 1), (0, 2, 1), (0, 3, 1), (1, 2, 1), (1, 3, 1), (2, 3, 1)))
        rows = tuple(((place,), 1) for place in range(4))
        for join in ((0, 5), (1, 4), (2, 3)):
            self.assertIsNone(self.join((0, 1, 2, 3), ("least", join, 2, rows), web))
            self.assertEqual(self.join((0, 1, 2, 3), ("least", join, 2, rows[1:]), web), ("sum", 0))
            self.assertEqual(self.join((0, 1, 2, 3), ("least", join, 1, rows), web), ("tie", 0))
            self.assertEqual(self.join((0, 1, 2, 3), ("least", join, 3, rows), web), ("sum", 0))

    def test_odds_ahead_of_sides(self):
        for join, place in (((), 0), ((0,), 1), ((4,), 0), ((3,), 3), ((0, 1, 2, 3, 4), 0), ((3, 4, 5), 5)):
            for rows in ((), self.rows, (((3,), 1),), (((4,), 99),)):
                self.assertEqual(self.join((0, 4), ("least", join, 1, rows)), ("odds", place), join)
        self.assertEqual(self.join((2,), ("least", (), 1, ())), ("odds", 2))
        self.assertEqual(self.join((), ("least", (4, 5), 1, ())), ("odds", 3))

    def test_sides_ahead_of_ties_ahead_of_sum(self):
        for join in ((3, 4), (0, 1, 2, 4)):
            self.assertEqual(self.join((0, 4), ("least", join, 1, (((4,), 99), ((3,), 1)))), ("side", 1))
            self.assertEqual(self.join((0, 4), ("least", join, 1, (((4,), 7), ((0,), 4)))), ("tie", 0))
            self.assertEqual(self.join((0, 4), ("least", join, 1, (((4,), 7),))), ("tie", 4))
            self.assertEqual(self.join((0, 4), ("least", join, 1, (((4,), 6),))), ("sum", 0))
            self.assertEqual(self.join((0, 4), ("least", join, 1, ())), ("sum", 0))

    def test_another_join_in_its_place(self):
        for web in WEBS:
            for told, joins in joins_by_told(web).items():
                paper = join_paper(web, told)
                least = min(own_price(web, join) for join in joins)
                for join in joins:
                    due = None if own_price(web, join) == least else ("sum", 0)
                    self.assertEqual(self.join(told, ("least", join) + paper[2:], web), due)

    def test_each_least_join_crosses_each_row_once(self):
        for web in WEBS:
            for told, joins in joins_by_told(web).items():
                paper = join_paper(web, told)
                least = min(own_price(web, join) for join in joins)
                for join in joins:
                    if own_price(web, join) == least:
                        crossing = set(own_turns(join, own_below(web)))
                        for side, _ in paper[3]:
                            self.assertEqual(len(crossing & set(own_cut(web, side))), 1)
                        for n in crossing:
                            load = sum(share for side, share in paper[3] if n in own_cut(web, side))
                            self.assertEqual(load, paper[2] * abs(web[1][n][2]))

    def test_none_papers(self):
        self.assertIsNone(self.join((0, 5), ("none", (0, 1, 2, 3, 4))))
        self.assertIsNone(self.join((0, 5), ("none", (5, 6))))
        self.assertIsNone(self.join((0,), ("none", tuple(range(7)))))
        self.assertIsNone(self.join((0,), ("none", (0,)), (1, ())))
        for side in ((), (5, 6), tuple(range(5)), tuple(range(7))):
            self.assertEqual(self.join((0, 1), ("none", side)), ("side", 0))
        self.assertEqual(self.join((0, 5), ("none", tuple(range(7)))), ("side", 0))
        for side, number in (((0,), 0), ((1,), 0), ((2,), 1), ((3,), 2), ((4,), 4), ((5,), 5), ((0, 1), 1),
                             ((0, 1, 2), 2), ((0, 1, 2, 3), 4), ((0, 1, 2, 3, 4, 5), 5)):
            for told in ((0, 5), (), (0, 1, 2)):
                self.assertEqual(self.join(told, ("none", side)), ("tie", number), side)

    def test_never_both(self):
        for web in WEBS:
            by_told = joins_by_told(web)
            for told in subsets(range(web[0])):
                let = [side for side in subsets(range(web[0])) if self.join(told, ("none", side), web) is None]
                self.assertEqual(let == [], told in by_told)
                if let:
                    self.assertTrue(any(part in let for part in own_parts(web)))

    def test_shapes(self):
        right = ("least", (3, 4), 1, self.rows)
        wrong = [list(right), right[:3], right + ((),), right[1:], ("Least",) + right[1:], (None,) + right[1:],
                 ("none",) + right[1:], ("least", (0, 1, 2, 3, 4)), ("none", (0, 1), 1, ()), ("none",),
                 ("none", (0,), ()), ["none", (0,)], ("least", (3, 4), (1, self.rows)), ("least", (3, 4), 0, self.rows),
                 ("least", (6,), 1, ()), ("least", (3, 4), 1, list(self.rows)),
                 ("least", (3, 4), 1, self.rows + ((4,),)), ("better", (), ())]
        wrong += [("least", some, 1, ()) for some in NO_SIDES] + [("none", side) for side in NO_SIDES]
        wrong += [("least", (), bottom, ()) for bottom in NO_NUMBERS + [0, -1]]
        wrong += [("least", (3, 4), 1, (((4,), share),)) for share in NO_NUMBERS + [0, -1]]
        wrong += [("least", (), 1, (((3,), 1), (side, 1))) for side in NO_SIDES]
        for thing in wrong + ODD_THINGS:
            ahead = copy.deepcopy(thing)
            self.assertEqual(self.join((0, 4), thing), ("shape", 0), thing)
            self.assertEqual(thing, ahead)

    def test_changed_papers_are_judged_as_told(self):
        source = random.Random(23)
        seen = {}
        for web in WEBS:
            for told in subsets(range(web[0])):
                for _ in range(4):
                    thing = changed(source, web, join_paper(web, told))
                    fields = self.join(told, thing, web)
                    self.assertEqual(fields, join_verdict(web, told, thing), thing)
                    seen[fields and fields[0]] = True
                    self.is_so(web, told, thing, fields)
        self.assertEqual(set(seen), {None, "shape", "odds", "side", "tie", "sum"})

    def is_so(self, web, told, thing, fields):
        """What is let by is so, whoever wrote it."""
        if fields is None:
            joins = [some for some in subsets(range(len(web[1]))) if own_odds(web, some) == told]
            if thing[0] == "none":
                self.assertEqual(joins, [])
            else:
                self.assertEqual(own_price(web, thing[1]), min(own_price(web, join) for join in joins))
