import copy
import random
import unittest

from oddjoins.errors import NoTie
from oddjoins.joinchecker import lets_join
from oddjoins.keeping import Keeper

from tests.samples import (BIG, ODD_THINGS, SMALL_WEBS, joins_by_told, least_by_told, own_is_rising, own_odds,
                           own_price, own_turns, priced, some_webs, subsets)
from tests.verdicts import join_verdict

WEBS = SMALL_WEBS + some_webs(161, 15, ties=(1, 7)) + some_webs(162, 10, places=(2, 4), ties=(2, 6), low=-1, high=1)
FULL = some_webs(163, 3, places=(9, 9), ties=(16, 16), low=-99, high=99)

WEB = (5, ((0, 1, 5), (1, 2, 1), (0, 2, 2), (0, 1, 4), (2, 3, 3)))


class Kept(unittest.TestCase):

    def seen(self, keeper):
        return (keeper.web_now(), keeper.told_now(), keeper.join_now())

    def right(self, keeper, web, told):
        """The keeper holds just this web and told, a least join for them, and a paper of that very join."""
        self.assertEqual(keeper.web_now(), web)
        self.assertEqual(keeper.told_now(), told)
        join = keeper.join_now()
        paper = keeper.paper_now()
        self.assertTrue(all(type(thing) is tuple for thing in (keeper.web_now(), keeper.told_now(), paper)))
        self.assertIsNone(join_verdict(web, told, paper), (web, told, paper))
        self.assertIs(lets_join(web, told, paper), True)
        least = least_by_told(web).get(told)
        if least is None:
            self.assertIsNone(join)
            self.assertEqual(paper[0], "none")
        else:
            self.assertTrue(own_is_rising(join, len(web[1])))
            self.assertEqual(own_odds(web, join), told)
            self.assertEqual(own_price(web, join), least)
            self.assertEqual(paper[:2], ("least", join))
        # Asking changes nothing.
        self.assertEqual(self.seen(keeper), (web, told, join))

    def deed(self, keeper, ask, *asked):
        """What a deed tells is the join behind it by turns with the one ahead of it; else None."""
        ahead = keeper.join_now()
        told = ask(*asked)
        behind = keeper.join_now()
        if ahead is None or behind is None:
            self.assertIsNone(told)
        else:
            self.assertIs(type(told), tuple)
            self.assertEqual(told, own_turns(ahead, behind))
        return told

    def test_made_of_each_web_and_told(self):
        for web in WEBS:
            by_told = joins_by_told(web)
            for told in subsets(range(web[0])):
                keeper = Keeper(web, told)
                self.right(keeper, web, told)
                self.assertEqual(keeper.join_now() is None, told not in by_told)

    def test_prices(self):
        keeper = Keeper(WEB, (0, 1))
        self.assertEqual(keeper.join_now(), (1, 2))
        self.assertEqual(self.deed(keeper, keeper.set_price, 0, 1), (0, 1, 2))
        self.right(keeper, priced(WEB, 0, 1), (0, 1))
        self.assertEqual(self.deed(keeper, keeper.set_price, 4, -9), ())
        self.right(keeper, priced(priced(WEB, 0, 1), 4, -9), (0, 1))
        self.assertEqual(self.deed(keeper, keeper.set_price, 4, 3), ())
        self.assertEqual(self.deed(keeper, keeper.set_price, 0, 5), (0, 1, 2))
        self.right(keeper, WEB, (0, 1))
        self.assertEqual(keeper.join_now(), (1, 2))

    def test_the_same_price(self):
        for web in WEBS:
            for told in subsets(range(web[0]))[:8]:
                keeper = Keeper(web, told)
                for number, tie in enumerate(web[1]):
                    changed = self.deed(keeper, keeper.set_price, number, tie[2])
                    self.right(keeper, web, told)
                    if changed is not None:
                        self.assertEqual(own_odds(web, changed), ())
                        self.assertEqual(own_price(web, own_turns(changed, keeper.join_now())),
                                         own_price(web, keeper.join_now()))

    def test_below_nought_and_back(self):
        for web in WEBS:
            for told in subsets(range(web[0]))[:6]:
                keeper = Keeper(web, told)
                for number, tie in enumerate(web[1]):
                    for price in (-99, 0, 99, -1, tie[2]):
                        changed = self.deed(keeper, keeper.set_price, number, price)
                        self.right(keeper, priced(web, number, price), told)
                        self.assertEqual(changed is None, keeper.join_now() is None)
                        if changed is not None:
                            self.assertEqual(own_odds(web, changed), ())
                self.right(keeper, web, told)

    def test_numbers_that_are_no_ties(self):
        things = [-1, 5, 6, 99, BIG, -BIG, -5, True, False, None, "", "0", (), (0,), [], [0], [[0]], (0, 1), ((),),
                  "tie", (True,)] + [thing for thing in ODD_THINGS if thing not in range(5)]
        for told in ((0, 1), (), (0, 4)):
            keeper = Keeper(WEB, told)
            ahead = self.seen(keeper)
            for thing in things:
                kept = copy.deepcopy(thing)
                for price in (1, -99, WEB[1][0][2]):
                    with self.assertRaises(NoTie) as refused:
                        keeper.set_price(thing, price)
                    self.assertIs(refused.exception.number, thing)
                    self.assertEqual(self.seen(keeper), ahead)
                self.assertEqual(thing, kept)
            self.right(keeper, WEB, told)
        keeper = Keeper((1, ()), ())
        for thing in (0, 1, -1, False, None, ()):
            with self.assertRaises(NoTie) as refused:
                keeper.set_price(thing, 4)
            self.assertIs(refused.exception.number, thing)
        self.right(keeper, (1, ()), ())

    def test_turned_from_a_join_to_none_and_back(self):
        keeper = Keeper(WEB, (0, 1))
        self.assertIsNone(self.deed(keeper, keeper.turn_told, 0, 4))
        self.right(keeper, WEB, (1, 4))
        self.assertIsNone(keeper.join_now())
        # From none to none.
        self.assertIsNone(self.deed(keeper, keeper.turn_told, 2, 1))
        self.right(keeper, WEB, (2, 4))
        self.assertIsNone(self.deed(keeper, keeper.set_price, 0, -7))
        self.assertIsNone(keeper.join_now())
        self.right(keeper, priced(WEB, 0, -7), (2, 4))
        self.assertIsNone(self.deed(keeper, keeper.set_price, 0, 5))
        self.assertIsNone(self.deed(keeper, keeper.turn_told, 4, 3))
        self.right(keeper, WEB, (2, 3))
        self.assertEqual(keeper.join_now(), (4,))
        self.assertEqual(self.deed(keeper, keeper.turn_told, 3, 1), (1, 4))
        self.right(keeper, WEB, (1, 2))

    def test_all_pairs_turned(self):
        for web in WEBS:
            for told in subsets(range(web[0]))[::5]:
                for place in range(web[0]):
                    for other in range(web[0]):
                        if place != other:
                            keeper = Keeper(web, told)
                            changed = self.deed(keeper, keeper.turn_told, place, other)
                            now = own_turns(told, (place, other))
                            self.assertEqual(keeper.told_now(), now)
                            if changed is not None:
                                self.assertEqual(own_odds(web, changed), tuple(sorted((place, other))))
                            self.deed(keeper, keeper.turn_told, other, place)
                            self.right(keeper, web, told)

    def many_deeds(self, source, web, told, count):
        keeper = Keeper(web, told)
        for _ in range(count):
            if web[1] and source.random() < 0.6:
                number = source.randrange(len(web[1]))
                price = source.choice((source.randint(-99, 99), source.randint(-2, 2)))
                web = priced(web, number, price)
                changed = self.deed(keeper, keeper.set_price, number, price)
                due = ()
            elif web[0] > 1:
                place, other = source.sample(range(web[0]), 2)
                told = own_turns(told, (place, other))
                changed = self.deed(keeper, keeper.turn_told, place, other)
                due = tuple(sorted((place, other)))
            else:
                break
            self.right(keeper, web, told)
            if changed is not None:
                self.assertEqual(own_odds(web, changed), due)

    def test_many_deeds_behind_one_another(self):
        source = random.Random(164)
        for web in WEBS:
            self.many_deeds(source, web, source.choice(subsets(range(web[0]))), 25)
        for web in FULL:
            self.many_deeds(source, web, (0, 4), 25)

    def test_two_keepers_of_one_web(self):
        source = random.Random(165)
        for web in WEBS:
            if web[1]:
                ahead = copy.deepcopy(web)
                one = Keeper(web, ())
                other = Keeper(web, ())
                kept = self.seen(other)
                for _ in range(5):
                    one.set_price(source.randrange(len(web[1])), source.randint(-9, 9))
                    one.turn_told(*source.sample(range(web[0]), 2))
                    self.assertEqual(self.seen(other), kept)
                self.right(other, web, ())
                self.right(one, one.web_now(), one.told_now())
                self.assertEqual(web, ahead)

    def test_what_was_told_stays_as_it_was(self):
        keeper = Keeper(WEB, (0, 1))
        told = [self.seen(keeper), keeper.paper_now(), keeper.set_price(0, 1)]
        kept = copy.deepcopy(told)
        keeper.set_price(1, -50)
        keeper.turn_told(0, 3)
        keeper.turn_told(1, 4)
        self.assertEqual(told, kept)

    def test_the_deeds_alone_count(self):
        for web in WEBS[:15]:
            for told in subsets(range(web[0]))[:4]:
                prices = []
                for _ in range(2):
                    keeper = Keeper(web, told)
                    for number in range(len(web[1])):
                        keeper.set_price(number, number - 3)
                    join = keeper.join_now()
                    prices.append(join and own_price(keeper.web_now(), join))
                    self.right(keeper, keeper.web_now(), told)
                self.assertEqual(prices[0], prices[1])
