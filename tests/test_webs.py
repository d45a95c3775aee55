import copy
import itertools
import unittest

from oddjoins.webs import (by_turns, cut_of, is_set, is_side, is_told, is_web, many_ends, odds_of, parts_of,
                           price_of)

from tests.samples import (BIG, ODD_THINGS, SMALL_WEBS, own_cut, own_odds, own_parts, own_price, own_turns,
                           some_webs, subsets)

WEBS = SMALL_WEBS + some_webs(1, 40, ties=(0, 7))
ROUND = (60, tuple((place, place + 1, place) for place in range(59)) + ((0, 59, -1),))


class IsWeb(unittest.TestCase):

    def test_webs(self):
        for web in WEBS + [ROUND]:
            self.assertIs(is_web(web), True)

    def test_bounds_of_places(self):
        for many in (1, 2, 59, 60):
            self.assertIs(is_web((many, ())), True)
        for many in (0, -1, -60, 61, 62, BIG, -BIG):
            self.assertIs(is_web((many, ())), False)

    def test_bounds_of_ties(self):
        self.assertIs(is_web((2, ((0, 1, 0),) * 199)), True)
        self.assertIs(is_web((2, ((0, 1, 0),) * 200)), True)
        self.assertIs(is_web((2, ((0, 1, 0),) * 201)), False)
        self.assertIs(is_web((60, tuple((0, place, place) for place in range(1, 60)) * 3)), True)

    def test_prices(self):
        for price in (0, -1, 99, -99, 100, BIG, -BIG):
            self.assertIs(is_web((2, ((0, 1, price), (0, 1, price)))), True)

    def test_ends(self):
        self.assertIs(is_web((3, ((0, 2, 1),))), True)
        self.assertIs(is_web((60, ((58, 59, 1),))), True)
        for a, b in ((2, 0), (1, 1), (0, 0), (0, 3), (2, 3), (-1, 0), (-2, -1), (3, 4), (0, BIG), (-BIG, 0)):
            self.assertIs(is_web((3, ((a, b, 1),))), False, (a, b))
            self.assertIs(is_web((3, ((0, 1, 1), (a, b, 1)))), False, (a, b))

    def test_a_tie_between_first_and_last(self):
        for wrong in ODD_THINGS:
            self.assertIs(is_web((3, ((0, 1, 1), wrong, (1, 2, 1)))), False)

    def test_lists_are_no_tuples(self):
        for wrong in ([2, ((0, 1, 1),)], (2, [(0, 1, 1)]), (2, ([0, 1, 1],)), [2, []], (2, []), ([2], ())):
            self.assertIs(is_web(wrong), False, wrong)

    def test_truths_are_no_numbers(self):
        for wrong in ((True, ()), (2, ((False, 1, 1),)), (2, ((0, True, 1),)), (2, ((0, 1, True),)),
                      (2, ((0, 1, False),)), (2, True), (2, False)):
            self.assertIs(is_web(wrong), False, wrong)

    def test_parts_more_or_fewer(self):
        for wrong in ((), (2,), (2, (), ()), (2, ((0, 1),)), (2, ((0, 1, 1, 1),)), (2, ((),)), (2, (0, 1, 1)),
                      (2, ((0, 1, (1,)),)), (2, ((0, 1, "1"),)), (2, ((0, 1, None),)), ("2", ()), (None, ())):
            self.assertIs(is_web(wrong), False, wrong)

    def test_other_things(self):
        for thing in ODD_THINGS:
            self.assertIs(is_web(thing), False)
            self.assertIs(is_web((2, thing)), thing == () and isinstance(thing, tuple))


class IsSet(unittest.TestCase):

    def ask(self, thing, web=(4, ((0, 1, 1), (0, 2, 1), (2, 3, 1), (2, 3, 1)))):
        answers = {is_set(web, thing), is_side(web, thing), is_told(web, thing)}
        self.assertEqual(len(answers), 1)
        answer = answers.pop()
        self.assertIsInstance(answer, bool)
        return answer

    def test_rising_ones(self):
        for some in subsets(range(4)):
            self.assertTrue(self.ask(some), some)

    def test_each_of_its_own_bound(self):
        web = (5, ((0, 1, 1), (0, 1, 1)))
        self.assertIs(is_side(web, (4,)), True)
        self.assertIs(is_told(web, (4,)), True)
        self.assertIs(is_set(web, (4,)), False)
        self.assertIs(is_set(web, (2,)), False)
        self.assertIs(is_set(web, (0, 1)), True)
        web = (2, ((0, 1, 1),) * 5)
        self.assertIs(is_side(web, (2,)), False)
        self.assertIs(is_told(web, (2,)), False)
        self.assertIs(is_side(web, (0, 2)), False)
        self.assertIs(is_told(web, (0, 2)), False)
        self.assertIs(is_set(web, (0, 2, 4)), True)
        self.assertIs(is_set(web, (0, 2, 5)), False)

    def test_without_ties_only_nothing_is_a_set(self):
        for thing in ODD_THINGS:
            self.assertIs(is_set((3, ()), thing), thing == () and isinstance(thing, tuple))
        self.assertIs(is_set((3, ()), (0,)), False)

    def test_at_sixty_places_and_two_hundred_ties(self):
        web = (60, ((0, 1, 1),) * 200)
        self.assertIs(is_side(web, tuple(range(60))), True)
        self.assertIs(is_side(web, tuple(range(61))), False)
        self.assertIs(is_told(web, tuple(range(60))), True)
        self.assertIs(is_told(web, tuple(range(61))), False)
        self.assertIs(is_set(web, tuple(range(200))), True)
        self.assertIs(is_set(web, tuple(range(201))), False)

    def test_not_rising(self):
        for some in itertools.product(range(4), repeat=3):
            self.assertEqual(self.ask(some), some[0] < some[1] < some[2], some)

    def test_wrong_ones(self):
        for thing in ((1, 1), (1, 0), (0, 4), (4,), (-1,), (-1, 0), (0, BIG), (True,), (False,), (0, True),
                      (False, 1), (0, True, 2), [0], [0, 1], [], ("0",), (None,), ((0,),), "0", 0, None, True):
            self.assertFalse(self.ask(thing), thing)

    def test_other_things(self):
        for thing in ODD_THINGS:
            self.assertEqual(self.ask(thing), thing == () and isinstance(thing, tuple))


class OfAWeb(unittest.TestCase):

    def test_odds_and_prices_of_all_sets(self):
        for web in WEBS:
            for some in subsets(range(len(web[1]))):
                self.assertEqual(odds_of(web, some), own_odds(web, some))
                self.assertEqual(price_of(web, some), own_price(web, some))

    def test_plain_odds(self):
        web = (4, ((0, 1, 2), (1, 2, -5), (0, 1, 2)))
        self.assertEqual(odds_of(web, ()), ())
        self.assertEqual(odds_of(web, (0, 1)), (0, 2))
        self.assertEqual(odds_of(web, (0, 2)), ())
        self.assertEqual(odds_of(web, (0, 1, 2)), (1, 2))
        self.assertEqual(price_of(web, ()), 0)
        self.assertEqual(price_of(web, (0, 1)), -3)
        self.assertEqual(price_of((2, ((0, 1, BIG), (0, 1, BIG))), (0, 1)), 2 * BIG)

    def test_cuts_of_all_sides(self):
        for web in WEBS:
            for side in subsets(range(web[0])):
                self.assertEqual(cut_of(web, side), own_cut(web, side))

    def test_plain_cuts(self):
        web = (4, ((0, 1, 2), (1, 2, -5), (0, 1, 2)))
        self.assertEqual(cut_of(web, ()), ())
        self.assertEqual(cut_of(web, (0,)), (0, 2))
        self.assertEqual(cut_of(web, (1,)), (0, 1, 2))
        self.assertEqual(cut_of(web, (0, 1)), (1,))
        self.assertEqual(cut_of(web, (3,)), ())
        self.assertEqual(cut_of(web, (0, 1, 2, 3)), ())

    def test_parts(self):
        for web in WEBS + [ROUND]:
            self.assertEqual(parts_of(web), own_parts(web))
        self.assertEqual(parts_of((1, ())), ((0,),))
        self.assertEqual(parts_of((3, ())), ((0,), (1,), (2,)))
        self.assertEqual(parts_of((5, ((1, 3, 0), (2, 4, 0)))), ((0,), (1, 3), (2, 4)))
        self.assertEqual(parts_of((4, ((2, 3, 0), (1, 2, 0), (0, 3, 0)))), ((0, 1, 2, 3),))
        self.assertEqual(parts_of(ROUND), (tuple(range(60)),))

    def test_many_ends(self):
        for web in WEBS + [ROUND]:
            own = tuple(len(own_cut(web, (place,))) for place in range(web[0]))
            self.assertEqual(many_ends(web), own)
        self.assertEqual(many_ends((4, ((0, 1, 2), (1, 2, -5), (0, 1, 2)))), (2, 3, 1, 0))
        self.assertEqual(many_ends((1, ())), (0,))
        self.assertEqual(many_ends(ROUND), (2,) * 60)

    def test_by_turns(self):
        for one in subsets(range(5)):
            self.assertEqual(by_turns(one, ()), one)
            self.assertEqual(by_turns((), one), one)
            self.assertEqual(by_turns(one, one), ())
            for other in subsets(range(5)):
                self.assertEqual(by_turns(one, other), own_turns(one, other))
        self.assertEqual(by_turns((150, 199), (2, 30, 150)), (2, 30, 199))

    def test_odds_go_by_turns_and_are_even_in_each_part(self):
        for web in SMALL_WEBS:
            sets = subsets(range(len(web[1])))
            for one in sets[::3]:
                for other in sets[::2]:
                    self.assertEqual(odds_of(web, by_turns(one, other)),
                                     by_turns(odds_of(web, one), odds_of(web, other)))
                for part in parts_of(web):
                    self.assertEqual(len(set(part) & set(odds_of(web, one))) % 2, 0)

    def test_kinds_and_nothing_changed_and_told_again(self):
        for web in WEBS:
            ahead = copy.deepcopy(web)
            for ask in (parts_of, many_ends, lambda web: odds_of(web, (0,) if web[1] else ()),
                        lambda web: cut_of(web, (0,))):
                first = ask(web)
                self.assertIs(type(first), tuple)
                self.assertEqual(ask(web), first)
            self.assertTrue(all(type(part) is tuple for part in parts_of(web)))
            self.assertEqual(web, ahead)

    def test_things_asked_stay_as_they_were(self):
        for thing in ([2, [[0, 1, 1]]], (2, ([0, 1, 1],)), [0, [1]], ([0], [1])):
            ahead = copy.deepcopy(thing)
            is_web(thing)
            is_set((2, ((0, 1, 1),)), thing)
            is_side((2, ((0, 1, 1),)), thing)
            self.assertEqual(thing, ahead)
