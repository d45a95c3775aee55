"""What the document promises over the whole program, by its modules together."""

import importlib
import inspect
import random
import unittest

from oddjoins.belowchecker import lets_below
from oddjoins.belows import below_paper
from oddjoins.bettering import better_ring, judged_join, lets_better
from oddjoins.cutchecker import lets_cut
from oddjoins.cutting import cut_paper, most_cut
from oddjoins.desk import Desk
from oddjoins.differences import change_by, difference
from oddjoins.drawing import drawn_turns
from oddjoins.errors import (JoinError, NoLine, NoPaper, NoText, NoTie, NoTurns, NoWalk, TooMany)
from oddjoins.facing import is_flat, right_turns
from oddjoins.forcedchecker import lets_forced
from oddjoins.forcing import forced_paper
from oddjoins.going import gone_counts, row_price, walk_over
from oddjoins.halving import halves_told, lets_halves
from oddjoins.joinchecker import lets_join
from oddjoins.keeping import Keeper
from oddjoins.linechecker import lets_line
from oddjoins.lining import line_paper
from oddjoins.onewaychecker import lets_oneway
from oddjoins.onewaying import oneway_paper
from oddjoins.oneways import is_oneway, oneway_over, oneway_walked
from oddjoins.onlychecker import lets_only
from oddjoins.onlying import only_paper
from oddjoins.outsides import odd_faces, outside_of
from oddjoins.pairing import least_join, least_prices
from oddjoins.rankchecker import lets_ranked
from oddjoins.ranking import ranked_paper
from oddjoins.rings import all_evens, all_joins
from oddjoins.sharing import join_paper
from oddjoins.tiechecker import lets_tie
from oddjoins.tiewords import tie_paper
from oddjoins.turning import turned, turned_set, turned_told
from oddjoins.walks import odd_times, walked
from oddjoins.webs import by_turns, cut_of, is_web, odds_of, parts_of, price_of
from oddjoins.webtexts import read_web, web_lines

from tests.flats import some_drawn
from tests.samples import BIG, SMALL_WEBS, deep, joins_by_told, own_price, plain_of, some_webs, subsets

WEBS = SMALL_WEBS + some_webs(371, 25, ties=(0, 8)) + some_webs(372, 15, places=(2, 4), ties=(2, 6), low=-1, high=1)
FULL = some_webs(373, 3, places=(9, 9), ties=(16, 16), low=-99, high=99)

INTERFACE = {
    "webs": {"is_web": 1, "is_told": 2, "is_set": 2, "is_side": 2, "odds_of": 2, "price_of": 2, "cut_of": 2,
             "parts_of": 1, "many_ends": 1, "by_turns": 2},
    "walks": {"walked": 3, "is_ring": 2, "odd_times": 1},
    "rings": {"rings_of": 2, "all_evens": 1, "all_joins": 2},
    "webtexts": {"numbers_text": 1, "read_numbers": 1, "web_lines": 1, "read_web": 1},
    "turning": {"below": 1, "turned": 1, "turned_told": 2, "turned_set": 2},
    "waychecker": {"lets_way": 4},
    "ways": {"way_between": 3, "heights_from": 2, "way_paper": 3},
    "joinchecker": {"bound_by": 3, "lets_join": 3},
    "pairing": {"least_join": 2, "least_prices": 1, "least_pairs": 2},
    "sharing": {"join_paper": 2},
    "bettering": {"lets_better": 3, "judged_join": 3, "better_ring": 3},
    "belowchecker": {"is_round": 2, "lets_below": 2},
    "belows": {"below_paper": 1},
    "rests": {"rest_of": 2},
    "forcedchecker": {"lets_forced": 5},
    "forcing": {"forced_paper": 4},
    "tiechecker": {"lets_tie": 4},
    "tiewords": {"tie_paper": 3, "slack_of": 2},
    "onlychecker": {"lets_only": 4},
    "onlying": {"only_paper": 3},
    "differences": {"change_by": 3, "difference": 3},
    "keeping": {"Keeper": 2},
    "rankchecker": {"lets_ranked": 4},
    "ranking": {"ranked_paper": 3},
    "going": {"gone_counts": 2, "row_price": 2, "walk_over": 4},
    "linechecker": {"lets_line": 5},
    "lining": {"line_paper": 4},
    "oneways": {"is_oneway": 1, "oneway_walked": 3, "oneway_over": 3},
    "onewaychecker": {"lets_oneway": 4},
    "onewaying": {"oneway_paper": 3},
    "facing": {"is_turns": 2, "right_turns": 2, "faces_of": 2, "is_flat": 2},
    "drawing": {"drawn_turns": 2},
    "outsides": {"outside_of": 2, "odd_faces": 2},
    "cutchecker": {"lets_cut": 2},
    "cutting": {"most_cut": 1, "cut_paper": 2},
    "halving": {"halves_told": 1, "lets_halves": 2},
    "desk": {"Desk": 1},
    "errors": {"NoPaper": 2, "NoWalk": 1, "NoText": 2, "NoTurns": 1, "NoTie": 1, "TooMany": 1, "NoLine": 1},
}


def lets(checker, *asked):
    try:
        return checker(*asked)
    except NoPaper:
        return False


class Interface(unittest.TestCase):

    def test_names_and_arguments(self):
        for module, names in INTERFACE.items():
            found = importlib.import_module(f"oddjoins.{module}")
            for name, count in names.items():
                parameters = inspect.signature(getattr(found, name)).parameters
                self.assertEqual(len(parameters), count, (module, name))
        for name, count in (("set_price", 2), ("turn_told", 2), ("web_now", 0), ("told_now", 0), ("join_now", 0),
                            ("paper_now", 0)):
            self.assertEqual(len(inspect.signature(getattr(Keeper((1, ()), ()), name)).parameters), count)
        self.assertEqual(len(inspect.signature(Desk(["web 1"]).say).parameters), 1)

    def test_refusals(self):
        for error, fields in ((NoPaper, ("word", "number")), (NoWalk, ("number",)), (NoText, ("row", "word")),
                              (NoTurns, ("place",)), (NoTie, ("number",)), (TooMany, ("word",)), (NoLine, ("line",))):
            self.assertEqual(error.__bases__, (JoinError,))
            things = [deep(list, 3), [None]][:len(fields)]
            made = error(*things)
            for field, thing in zip(fields, things):
                self.assertIs(getattr(made, field), thing)
        self.assertTrue(issubclass(JoinError, ValueError))

    def test_checkers_refuse_things_of_every_kind_and_raise_nothing_else(self):
        web = (3, ((0, 1, 1), (1, 2, 1), (0, 2, 1)))
        things = [None, True, 0, -BIG, "", "~", (), [], (None,) * 2, (None,) * 3, (None,) * 4, deep(tuple, 30), deep(list, 30)]
        things += [(word,) + rest for word in ("least", "none", "ring", "only", "other", "line", "apart", "loose", "tour",
                                               "stuck", "shut", "cut", "halves", "odd", "better", "always", "split")
                   for rest in ((), (None,), ([],), (True, True), ((), ()), ((), 1, ()), ([], [], []), (BIG, BIG, BIG))]
        for thing in things:
            for ask in (lambda: lets(lets_join, web, (), thing), lambda: lets(lets_better, web, (), thing),
                        lambda: lets(lets_below, web, thing), lambda: lets(lets_forced, web, (), (), (), thing),
                        lambda: lets(lets_tie, web, (), 0, thing), lambda: lets(lets_only, web, (), (), thing),
                        lambda: lets(lets_ranked, web, (), 2, thing), lambda: lets(lets_line, web, (0,), 0, 1, thing),
                        lambda: lets(lets_oneway, web, (0,), 0, thing), lambda: lets(lets_cut, web, thing),
                        lambda: lets_halves(web, thing), lambda: is_oneway(thing), lambda: is_web(thing)):
                self.assertIn(ask(), (True, False))


class Promise(unittest.TestCase):

    def test_of_each_told_a_least_join_or_a_side_that_shows_that_there_is_none(self):
        for web in WEBS:
            by_told = joins_by_told(web)
            for told in subsets(range(web[0])):
                paper = join_paper(web, told)
                self.assertIs(lets_join(web, told, paper), True)
                self.assertEqual(paper[0], "least" if told in by_told else "none")
                if paper[0] == "least":
                    self.assertEqual(own_price(web, paper[1]), min(own_price(web, join) for join in by_told[told]))
                sides = [side for side in subsets(range(web[0])) if lets(lets_join, web, told, ("none", side))]
                self.assertEqual(sides == [], paper[0] == "least")

    def test_of_each_join_a_least_or_a_better_paper(self):
        for web in WEBS[:30]:
            evens = all_evens(web)
            for told, joins in joins_by_told(web).items():
                for join in joins[:4]:
                    paper = judged_join(web, told, join)
                    better = [even for even in evens if lets(lets_better, web, told, ("better", join, even))]
                    if paper[0] == "least":
                        self.assertIs(lets_join(web, told, paper), True)
                        self.assertEqual(better, [])
                    else:
                        self.assertIs(lets_better(web, told, paper), True)
                        self.assertIs(lets_better(web, told, better_ring(web, told, paper)), True)
                        self.assertFalse(lets(lets_join, web, told, ("least", join) + join_paper(web, told)[2:]))

    def test_a_ring_below_nought_or_a_paper_that_there_is_none(self):
        for web in WEBS + FULL:
            paper = below_paper(web)
            self.assertIs(lets_below(web, paper), True)
            least = price_of(web, least_join(web, ()))
            self.assertEqual(paper[0], "ring" if least < 0 else "none")
            self.assertEqual(Desk(web_lines(web)).say("ring"), str(least))
            if paper[0] == "ring":
                self.assertEqual(walked(web, paper[1], paper[2]), paper[1])
                self.assertLess(row_price(web, paper[2]), 0)
                # Never both: as () isn't least, no rows of a least paper show its price.
                self.assertFalse(lets(lets_below, web, ("none",) + join_paper(web, ())[2:]))

    def test_rounds_over_every_tie(self):
        for web in [plain_of(web) for web in WEBS + FULL]:
            every = tuple(range(len(web[1])))
            start = web[1][0][0] if web[1] else 0
            paper = line_paper(web, every, start, start)
            self.assertIs(lets_line(web, every, start, start, paper), True)
            if paper[0] == "apart":
                self.assertEqual(cut_of(web, paper[1]), ())
                self.assertEqual(Desk(web_lines(web)).say("tour"), "none")
                continue
            self.assertEqual(walked(web, start, paper[1]), start)
            counts = gone_counts(web, paper[1])
            self.assertTrue(all(count in (1, 2) for count in counts))
            self.assertEqual(walk_over(web, counts, start, start)[0], "walk")
            # What is gone twice is a least join for the places at which an odd count of ties ends.
            twice = tuple(number for number in every if counts[number] == 2)
            self.assertEqual(odds_of(web, twice), odds_of(web, every))
            self.assertEqual(price_of(web, twice), price_of(web, least_join(web, odds_of(web, every))))
            self.assertEqual(Desk(web_lines(web)).say("tour"), str(row_price(web, paper[1])))

    def test_lines_over_nothing_are_least_ways(self):
        for web in [plain_of(web) for web in WEBS]:
            prices = least_prices(web)
            for one in range(web[0]):
                for other in range(web[0]):
                    paper = line_paper(web, (), one, other)
                    told = by_turns((one,), (other,))
                    self.assertEqual(paper[0] == "line", told in prices)
                    if paper[0] == "line":
                        self.assertEqual(row_price(web, paper[1]), prices[told])
                        self.assertEqual(odds_of(web, odd_times(paper[1])), told)

    def test_one_way_rounds(self):
        for web in [plain_of(web) for web in WEBS]:
            # Each tie led either way: then a round over one of each two is as dear as gone either way.
            both = (web[0], web[1] + tuple((b, a, price) for a, b, price in web[1]))
            every = tuple(range(len(both[1])))
            if not is_oneway(both):
                continue
            start = web[1][0][0] if web[1] else 0
            paper = oneway_paper(both, every, start)
            self.assertIs(lets_oneway(both, every, start, paper), True)
            if paper[0] == "tour":
                self.assertEqual(oneway_walked(both, start, paper[1]), start)
                self.assertEqual(row_price(both, paper[1]), price_of(both, every))
                self.assertEqual(oneway_over(both, gone_counts(both, paper[1]), start)[0], "walk")
            else:
                self.assertEqual(line_paper(web, tuple(range(len(web[1]))), start, start)[0], "apart")

    def test_cuts_and_outsides(self):
        source = random.Random(374)
        for _ in range(60):
            web, spots = some_drawn(source, (2, 8), (1, 14), 0, 9)
            turns = drawn_turns(web, spots)
            self.assertIs(right_turns(web, turns), True)
            self.assertIs(is_flat(web, turns), True)
            try:
                paper = cut_paper(web, turns)
            except TooMany as refused:
                self.assertEqual(refused.word, "faces")
                continue
            self.assertIs(lets_cut(web, paper), True)
            weight = price_of(web, cut_of(web, paper[1]))
            self.assertEqual(most_cut(web)[1], weight)
            self.assertEqual(Desk(web_lines(web)).say("cut"), str(weight))
            outside = outside_of(web, turns)[0]
            odd = odd_faces(web, turns)
            self.assertIs(lets_join(outside, odd, join_paper(outside, odd)), True)
            lacking = price_of(outside, least_join(outside, odd))
            self.assertEqual(price_of(web, tuple(range(len(web[1])))) - weight, lacking)
            self.assertEqual(halves_told(web)[0], "halves" if lacking == 0 else "odd")
            self.assertIs(lets_halves(web, halves_told(web)), True)

    def test_two_joins_differ_by_rings(self):
        for web in WEBS[:30]:
            for told, joins in joins_by_told(web).items():
                least = price_of(web, least_join(web, told))
                for one in joins[:4]:
                    for other in joins[:4]:
                        changes = [change_by(web, one, odd_times(row)) for _, row in difference(web, one, other)]
                        self.assertEqual(sum(changes), price_of(web, other) - price_of(web, one))
                        if price_of(web, one) == least:
                            self.assertTrue(all(change >= 0 for change in changes))
                            if price_of(web, other) == least:
                                self.assertTrue(all(change == 0 for change in changes))

    def test_ties_and_ranks_of_the_least_joins(self):
        for web in WEBS[:25]:
            for told, joins in list(joins_by_told(web).items())[:6]:
                least = min(own_price(web, join) for join in joins)
                leasts = [join for join in joins if own_price(web, join) == least]
                for number in range(len(web[1])):
                    paper = tie_paper(web, told, number)
                    self.assertIs(lets_tie(web, told, number, paper), True)
                    having = sum(number in join for join in leasts)
                    self.assertEqual(paper[0], "never" if having == 0 else
                                     "always" if having == len(leasts) else "sometimes")
                    one = forced_paper(web, told, (number,), ())
                    self.assertIs(lets_forced(web, told, (number,), (), one), True)
                only = only_paper(web, told, leasts[0])
                self.assertIs(lets_only(web, told, leasts[0], only), True)
                self.assertEqual(only[0], "only" if len(leasts) == 1 else "other")
                ranked = ranked_paper(web, told, 3)
                self.assertIs(lets_ranked(web, told, 3, ranked), True)
                self.assertEqual([own_price(web, join) for join in ranked[0]],
                                 sorted(own_price(web, join) for join in joins)[:3])

    def test_keepers_and_desks_go_the_same_way(self):
        source = random.Random(375)
        for web in WEBS:
            keeper = Keeper(web, ())
            desk = Desk(web_lines(web))
            for _ in range(8):
                if web[1] and source.random() < 0.6:
                    number, price = source.randrange(len(web[1])), source.randint(-9, 9)
                    keeper.set_price(number, price)
                    self.assertEqual(desk.say(f"price {number} {price}"), "ok")
                elif web[0] > 1:
                    keeper.turn_told(*source.sample(range(web[0]), 2))
                    self.assertEqual(desk.say(" ".join(["told"] + [str(place) for place in keeper.told_now()])), "ok")
                self.assertIs(lets_join(keeper.web_now(), keeper.told_now(), keeper.paper_now()), True)
                join = keeper.join_now()
                self.assertEqual(desk.say("join"), "none" if join is None else str(price_of(keeper.web_now(), join)))
                self.assertEqual(read_web(desk.say("web").split("; ")), keeper.web_now())

    def test_what_is_least_in_the_turned_web_is_least(self):
        for web in WEBS:
            for told in joins_by_told(web):
                join = turned_set(web, least_join(turned(web), turned_told(web, told)))
                self.assertEqual(odds_of(web, join), told)
                self.assertEqual(price_of(web, join), price_of(web, least_join(web, told)))
                self.assertTrue(all(len(set(part) & set(told)) % 2 == 0 for part in parts_of(web)))

    def test_what_is_told_is_the_askers_own(self):
        web = WEBS[6]
        for tell in (lambda: all_evens(web), lambda: all_joins(web, (0, 1)), lambda: web_lines(web),
                     lambda: least_prices(web)):
            first = tell()
            kept = first.copy()
            first.clear()
            self.assertEqual(tell(), kept)
            self.assertNotEqual(tell(), first)
