import random

from oddjoins.forcedchecker import lets_forced
from oddjoins.forcing import forced_paper
from oddjoins.joinchecker import lets_join
from oddjoins.sharing import join_paper

from tests.samples import (BIG, NO_NUMBERS, NO_SIDES, ODD_THINGS, SMALL_WEBS, joins_by_told, own_price, some_webs,
                           subsets)
from tests.verdicts import Asked, changed, forced_verdict, join_verdict, spoiled

WEBS = SMALL_WEBS + some_webs(91, 25, ties=(0, 7)) + some_webs(92, 15, places=(2, 4), ties=(3, 6), low=-2, high=2)

# The joins for (0, 1) are (0,), (3,), (1, 2) and (0, 1, 2, 3), at 5, 5, 3 and 13.
WEB = (5, ((0, 1, 5), (1, 2, 1), (0, 2, 2), (0, 1, 5), (2, 3, 3)))


def is_forced(join, ins, outs):
    return set(ins) <= set(join) and not set(outs) & set(join)


class LetsForced(Asked):

    def ask(self, ins, outs, thing, told=(0, 1), web=WEB):
        return self.fields(lets_forced, web, told, ins, outs, thing)

    def test_least_ones(self):
        for ins, outs, join, bottom, rows in (((0,), (), (0,), 1, ()), ((3,), (), (3,), 7, ()),
                                              ((), (1,), (0,), 1, (((1,), 5),)), ((), (1,), (3,), 1, (((1,), 5),)),
                                              ((), (0,), (1, 2), 1, (((0,), 2), ((1,), 1))),
                                              ((1,), (0,), (1, 2), 1, (((0,), 2),)),
                                              ((1, 2), (0, 3), (1, 2), 1, ()), ((0, 3), (), (0, 1, 2, 3), 2,
                                                                                (((0,), 4), ((1,), 2)))):
            self.assertIsNone(self.ask(ins, outs, ("least", join, bottom, rows)), (ins, outs))

    def test_none_ones(self):
        for ins, outs, side in (((), (0, 1, 3), (1,)), ((), (0, 1, 3), (0, 2, 3)), ((), (0, 1, 3), (1, 4)),
                                ((4,), (), (3,)), ((4,), (), (0, 1, 2)), ((0, 4), (1,), (3, 4)),
                                ((0, 1, 2, 3, 4), (), (3,)), ((), (0, 1, 2, 3, 4), (0,)),
                                ((0, 2), (1, 3, 4), (2,)), ((0, 2), (1, 3, 4), (0, 1, 3, 4))):
            self.assertIsNone(self.ask(ins, outs, ("none", side)), (ins, outs))

    def test_no_ins_and_no_outs(self):
        for web in SMALL_WEBS:
            for told in subsets(range(web[0])):
                paper = join_paper(web, told)
                self.assertIsNone(self.ask((), (), paper, told, web))
        self.assertEqual(self.ask((), (), ("least", (0,), 1, (((0,), 2), ((1,), 1)))), ("sum", 0))
        self.assertIsNone(self.ask((), (), ("least", (1, 2), 1, (((0,), 2), ((1,), 1)))))
        self.assertEqual(self.ask((), (), ("none", (4,))), ("side", 0))
        self.assertIsNone(self.ask((), (), ("none", (4,)), (0, 4)))

    def test_all_ties_in_either(self):
        for ins in subsets(range(5)):
            outs = tuple(number for number in range(5) if number not in ins)
            for join in subsets(range(5)):
                due = forced_verdict(WEB, (0, 1), ins, outs, ("least", join, 1, ()))
                self.assertEqual(self.ask(ins, outs, ("least", join, 1, ())), due)
                if join == ins:
                    self.assertIn(due, (None, ("odds", 0), ("odds", 1), ("odds", 2)))
                    self.assertEqual(due is None, ins in ((0,), (3,), (1, 2), (0, 1, 2, 3)))
                else:
                    self.assertIn(due[0], ("ins", "outs"))
            # Each place is a side that no tie leaves.
            for place in range(5):
                due = forced_verdict(WEB, (0, 1), ins, outs, ("none", (place,)))
                self.assertIn(due, (None, ("side", 0)))
                self.assertEqual(self.ask(ins, outs, ("none", (place,))), due)

    def test_ins_ahead_of_outs_ahead_of_the_rest(self):
        bad = (("least", 1, ()), ("least", 0, []), ("least", None, None), ("least", True, (((9,), 1),)))
        for word, bottom, rows in bad:
            for ins, outs, join, due in (((0,), (), (), ("ins", 0)), ((0, 3), (), (0,), ("ins", 3)),
                                         ((0, 3), (), (3,), ("ins", 0)), ((1, 2, 4), (), (2,), ("ins", 1)),
                                         ((1, 2, 4), (), (1, 2), ("ins", 4)),
                                         ((0,), (3,), (3,), ("ins", 0)), ((3,), (0,), (0,), ("ins", 3)),
                                         ((3,), (0,), (0, 3), ("outs", 0)), ((), (2, 4), (2, 4), ("outs", 2)),
                                         ((), (2, 4), (4,), ("outs", 4)), ((1,), (2, 4), (1, 4), ("outs", 4)),
                                         ((0, 1, 2, 3, 4), (), (), ("ins", 0)),
                                         ((), (0, 1, 2, 3, 4), (4,), ("outs", 4))):
                self.assertEqual(self.ask(ins, outs, (word, join, bottom, rows)), due, (ins, outs, join))

    def test_odds(self):
        for ins, outs, join, place in (((0,), (), (0, 1), 1), ((0,), (), (0, 4), 2), ((), (0,), (), 0),
                                       ((), (0,), (2,), 1), ((4,), (), (1, 2, 4), 2), ((0, 3), (), (0, 3), 0),
                                       ((1, 2), (), (0, 1, 2), 0)):
            for rows in ((), (((3,), 1),), (((0,), 99),)):
                self.assertEqual(self.ask(ins, outs, ("least", join, 1, rows)), ("odds", place), join)

    def test_sides_by_the_told_places_of_the_rest(self):
        # Where tie 0 is in, nothing is told any more in the rest: no side is odd.
        self.assertEqual(self.ask((0,), (), ("least", (0,), 1, (((0,), 1),))), ("side", 0))
        self.assertEqual(self.ask((), (0,), ("least", (1, 2), 1, (((0,), 9), ((2,), 1)))), ("side", 1))
        # Where tie 1 is in, 0 and 2 are told there.
        self.assertEqual(self.ask((1,), (0,), ("least", (1, 2), 1, (((1,), 2),))), ("side", 0))
        self.assertEqual(self.ask((1,), (0,), ("least", (1, 2), 1, (((2,), 2),))), None)

    def test_ties_by_their_numbers_in_the_rest(self):
        for ins, outs, join, rows, number in (((), (1,), (0,), (((1,), 6),), 0), ((), (1,), (0,), (((0,), 5),), 1),
                                              ((), (0,), (1, 2), (((0,), 5),), 1), ((), (0,), (1, 2), (((1,), 2),), 0),
                                              ((), (0, 1), (3,), (((0,), 3),), 0), ((), (0, 2), (3,), (((0,), 6),), 1),
                                              ((1,), (0,), (1, 2), (((0,), 6),), 0),
                                              ((), (0,), (1, 2), (((0, 3), 2), ((0, 3, 4), 2)), 1)):
            self.assertEqual(self.ask(ins, outs, ("least", join, 1, rows)), ("tie", number), (ins, outs, rows))
        self.assertEqual(self.ask((), (0, 1, 3), ("none", (0,))), ("tie", 0))
        self.assertEqual(self.ask((), (0, 1, 3), ("none", (0, 1, 2))), ("tie", 1))
        self.assertEqual(self.ask((), (1, 2), ("none", (3,))), ("tie", 2))
        self.assertEqual(self.ask((4,), (1, 2), ("none", (0,))), ("tie", 0))

    def test_sum(self):
        for ins, outs, join, rows in (((), (1,), (0,), ()), ((), (1,), (0,), (((1,), 4),)),
                                      ((), (0,), (3,), (((0,), 2), ((1,), 1))), ((0,), (), (0, 1, 2, 3), ())):
            self.assertEqual(self.ask(ins, outs, ("least", join, 1, rows)), ("sum", 0), join)
        # The price of what is in counts for nothing there, nor do ties below nought that are in or out.
        web = (2, ((0, 1, -7), (0, 1, 2)))
        self.assertIsNone(self.ask((0,), (), ("least", (0,), 1, ()), (0, 1), web))
        self.assertIsNone(self.ask((), (0,), ("least", (1,), 1, (((0,), 2),)), (0, 1), web))
        self.assertIsNone(self.ask((1,), (), ("least", (0, 1), 1, ()), (), web))
        self.assertEqual(self.ask((1,), (), ("least", (0, 1), 1, (((0,), 1),)), (), web), ("side", 0))

    def test_side_of_none(self):
        for ins, outs, side in (((), (), ()), ((), (), (0, 1, 2, 3, 4)), ((0,), (), (4,)), ((4,), (), (4,)),
                                ((), (0, 1, 3), (4,)), ((), (0, 1, 3), (0, 1, 2, 3)), ((4,), (), (0, 1, 2, 3))):
            self.assertEqual(self.ask(ins, outs, ("none", side)), ("side", 0), side)

    def test_a_join_that_is_no_set(self):
        for join in NO_SIDES + [(5,), (0, 5), (BIG,), (3, 0), (0, 0)]:
            self.assertEqual(self.ask((), (1,), ("least", join, 1, (((1,), 5),))), ("shape", 0), join)
            self.assertEqual(self.ask((0,), (), ("least", join, 1, ())), ("shape", 0), join)

    def test_shapes(self):
        right = ("least", (0,), 1, (((1,), 5),))
        for thing in (right[:3], right + ((),), right[1:], list(right), right[:2], ("none",) + right[1:],
                      ("Least",) + right[1:], (None,) + right[1:], ("only",) + right[1:], ("least", (0,)),
                      ("least", (1,)), ("least",), ("none",), ("none", (1,), ()), ("none", (1,), 1, ()),
                      ["none", (1,)], ("None", (1,)), ((1,), "none"), ("better", (0,), ()), (("none", (1,)),),
                      (["least"],) + right[1:]):
            self.assertEqual(self.ask((), (0, 1, 3), thing), ("shape", 0), thing)
            self.assertEqual(self.ask((), (1,), thing), ("shape", 0), thing)
        for thing in ODD_THINGS:
            self.assertEqual(self.ask((0,), (1,), thing), ("shape", 0), thing)

    def test_other_kinds_within(self):
        for side in NO_SIDES + [(5,), (0, 5)]:
            self.assertEqual(self.ask((), (0, 1, 3), ("none", side)), ("shape", 0), side)
            self.assertEqual(self.ask((), (1,), ("least", (0,), 1, ((side, 5),))), ("shape", 0), side)
        for number in NO_NUMBERS + [0, -1]:
            self.assertEqual(self.ask((), (1,), ("least", (0,), number, (((1,), 5),))), ("shape", 0), number)
            self.assertEqual(self.ask((), (1,), ("least", (0,), 1, (((1,), number),))), ("shape", 0), number)
        for rows in ODD_THINGS:
            self.assertEqual(self.ask((), (1,), ("least", (0,), 1, rows)), ("shape", 0), rows)

    def test_spoiled_papers_are_judged_as_told(self):
        for ins, outs in (((), ()), ((0,), ()), ((), (1,)), ((1,), (0,)), ((), (0, 1, 3)), ((4,), (3,))):
            for thing in spoiled(forced_paper(WEB, (0, 1), ins, outs)):
                self.assertEqual(self.ask(ins, outs, thing), forced_verdict(WEB, (0, 1), ins, outs, thing), thing)

    def test_changed_papers_are_judged_as_told(self):
        source = random.Random(93)
        seen = {}
        for web in WEBS:
            by_told = joins_by_told(web)
            for told in subsets(range(web[0])):
                ins, outs = some_forces(source, web)
                thing = changed(source, web, forced_paper(web, told, *source.choice([(ins, outs), ((), ()),
                                                                                     (ins, ())])))
                fields = self.ask(ins, outs, thing, told, web)
                self.assertEqual(fields, forced_verdict(web, told, ins, outs, thing), (web, told, ins, outs, thing))
                seen[fields and fields[0]] = True
                # What is let by is so, whoever wrote it.
                if fields is None:
                    joins = [join for join in by_told.get(told, []) if is_forced(join, ins, outs)]
                    self.assertEqual(thing[0], "least" if joins else "none")
                    if joins:
                        self.assertEqual(own_price(web, thing[1]), min(own_price(web, join) for join in joins))
        self.assertEqual(set(seen), {None, "shape", "ins", "outs", "odds", "side", "tie", "sum"})

    def test_it_is_another_thing_than_a_join_paper(self):
        # Least of all joins, but the forced one is another.
        paper = join_paper(WEB, (0, 1))
        self.assertIsNone(join_verdict(WEB, (0, 1), paper))
        self.assertIs(lets_join(WEB, (0, 1), paper), True)
        self.assertEqual(self.ask((0,), (), paper), ("ins", 0))
        self.assertEqual(self.ask((), (2,), paper), ("outs", 2))


def some_forces(source, web):
    """Ins and outs, drawn: each tie in one of both, or in none."""
    lots = [source.choice((0, 0, 1, 2)) for _ in web[1]]
    return tuple(tuple(number for number, lot in enumerate(lots) if lot == own) for own in (1, 2))
