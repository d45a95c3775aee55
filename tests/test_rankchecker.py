import random

from oddjoins.rankchecker import lets_ranked
from oddjoins.ranking import ranked_paper
from oddjoins.sharing import join_paper

from tests.samples import (BIG, NO_NUMBERS, NO_SIDES, ODD_THINGS, SMALL_WEBS, deep, joins_by_told, own_price, some_webs,
                           subsets)
from tests.verdicts import Asked, changed, ranked_verdict, spoiled

WEBS = SMALL_WEBS + some_webs(171, 20, ties=(0, 6)) + some_webs(172, 15, places=(2, 4), ties=(2, 6), low=-1, high=1)

# The joins for (0, 1) are (0,), (1,), (2,) and (0, 1, 2), at 1, 2, 4 and 7.
WEB = (2, ((0, 1, 1), (0, 1, 2), (0, 1, 4)))
JOINS = ((0,), (1,), (2,), (0, 1, 2))
GONE = ("rest", ("none", (0,)))
# Rests by ins (0, 1) and outs (), and by ins () and outs (0, 1).
ALL_THREE = ("rest", ("least", (0, 1, 2), 1, (((0,), 4),)))
LAST_ONE = ("rest", ("least", (2,), 1, (((0,), 4),)))
# Gone through: the splits by 0, by 1, ALL_THREE, the split by 2, GONE, join 0, the splits by 1, by 2, GONE, join 1,
# LAST_ONE.
TREE = ("split", 0, ("split", 1, ALL_THREE, ("split", 2, GONE, ("join", 0))),
        ("split", 1, ("split", 2, GONE, ("join", 1)), LAST_ONE))
NODES = 11
# All four joins are leaves.
WHOLE = ("split", 0, ("split", 1, ("split", 2, ("join", 3), GONE), ("split", 2, GONE, ("join", 0))),
         ("split", 1, ("split", 2, GONE, ("join", 1)), ("split", 2, ("join", 2), GONE)))


def put(tree, n, other):
    """The tree with another one in the place of its node n, as they are gone through."""
    return put_from(tree, [n], other)


def put_from(tree, left, other):
    left[0] -= 1
    if left[0] == -1:
        return other
    if tree[:1] != ("split",):
        return tree
    return tree[:2] + (put_from(tree[2], left, other), put_from(tree[3], left, other))


def node(tree, n):
    found = []
    waiting = [tree]
    while waiting:
        found.append(waiting.pop())
        if found[-1][0] == "split":
            waiting += [found[-1][3], found[-1][2]]
    return found[n]


class LetsRanked(Asked):

    def ask(self, thing, count=2, told=(0, 1), web=WEB):
        return self.fields(lets_ranked, web, told, count, thing)

    def test_right_ones(self):
        self.assertIsNone(self.ask((JOINS[:2], TREE)))
        for count in (4, 5, 8):
            self.assertIsNone(self.ask((JOINS, WHOLE), count))
        self.assertIsNone(self.ask((((),), ("join", 0)), 1, (), (1, ())))
        self.assertIsNone(self.ask((((),), ("join", 0)), 8, (), (3, ())))
        self.assertIsNone(self.ask(((), ("rest", ("none", (0,)))), 8, (0,), (1, ())))
        self.assertIsNone(self.ask(((), ("rest", ("none", (0, 1)))), 1, (0,)))

    def test_a_rest_may_hold_joins_that_are_no_cheaper(self):
        paper = join_paper(WEB, (0, 1))
        self.assertIsNone(self.ask((JOINS[:1], ("rest", paper)), 1))
        # With two joins asked for, the cheapest of the rest is cheaper than the last one.
        self.assertEqual(self.ask((JOINS[:2], ("rest", paper))), ("tree", 0))
        self.assertEqual(self.ask((JOINS[:1], ("rest", paper))), ("tree", 0))

    def test_joins_alike_in_price_in_either_order(self):
        web = (2, ((0, 1, 3), (0, 1, 3), (0, 1, 4)))
        paper = ("rest", join_paper(web, (0, 1)))
        for joins in (((0,), (1,)), ((1,), (0,))):
            self.assertIsNone(self.ask((joins, paper), 2, (0, 1), web))
            self.assertEqual(self.ask((joins, paper), 3, (0, 1), web), ("tree", 0))
            first = joins.index((0,))
            tree = ("split", 0, ("split", 1, ("rest", ("least", (0, 1, 2), 1, (((1,), 4),))),
                                 ("split", 2, GONE, ("join", first))), ("rest", join_paper(web, (0, 1))))
            due = ranked_verdict(web, (0, 1), 2, (joins, tree))
            self.assertEqual(self.ask((joins, tree), 2, (0, 1), web), due)
            tree = tree[:3] + (("split", 1, ("split", 2, GONE, ("join", 1 - first)),
                                ("rest", ("least", (2,), 1, (((0,), 4),)))),)
            self.assertIsNone(self.ask((joins, tree), 2, (0, 1), web))
            self.assertEqual(self.ask((joins[::-1], tree), 2, (0, 1), web), ("tree", 5))

    def test_joins(self):
        for joins, k in ((((),), 0), (((0, 1),), 0), (((0,), ()), 1), (((0,), (0, 1)), 1), (((0, 1), ()), 0),
                         (((0,), (0,)), 1), (((1,), (0,)), 1), (((0, 1, 2), (2,)), 1), (((2,), (2,)), 1)):
            for tree in (TREE, None, "", (), ("join", 0)):
                self.assertEqual(self.ask((joins, tree)), ("join", k), joins)
        for joins, k in ((JOINS[::-1], 1), (JOINS[:2] + JOINS[:1], 2), (JOINS[:1] + JOINS[2:] + JOINS[1:2], 3),
                         (JOINS[1:] + JOINS[:1], 3), (JOINS[:2] + ((0, 2),) + JOINS[2:3], 2)):
            self.assertEqual(self.ask((joins, WHOLE), 4), ("join", k), joins)
        # One twice though it is as dear as the one ahead of it; one that stands further ahead.
        web = (2, ((0, 1, 3), (0, 1, 3)))
        self.assertEqual(self.ask((((0,), (1,), (0,)), None), 3, (0, 1), web), ("join", 2))
        self.assertEqual(self.ask((((0,), (1,), (1,)), None), 3, (0, 1), web), ("join", 2))

    def test_shapes(self):
        for thing in ((JOINS[:3], TREE), (JOINS, TREE), (list(JOINS[:2]), TREE), [JOINS[:2], TREE], (JOINS[:2],),
                      (JOINS[:2], TREE, ()), (TREE, JOINS[:2]), (JOINS[:2] + TREE), (None, TREE), ((0,), TREE),
                      (0, TREE), (True, TREE), ("", TREE), (((0,), [1]), TREE), (((0,), (3,)), TREE), ((), TREE, ()),
                      (((0,), (True,)), TREE), (((False,), (1,)), TREE), (((0,), (1, 0)), TREE), (((0,), 1), TREE)):
            self.assertEqual(self.ask(thing), ("shape", 0), thing)
        for join in NO_SIDES + [(3,), (0, 3), (BIG,)]:
            self.assertEqual(self.ask(((join,), TREE)), ("shape", 0), join)
            # Shape goes ahead of what is no join.
            self.assertEqual(self.ask((((0, 1), join), TREE)), ("shape", 0), join)
        for thing in ODD_THINGS:
            due = ranked_verdict(WEB, (0, 1), 2, thing)
            self.assertIn(due[0], ("shape", "join", "tree"))
            self.assertEqual(self.ask(thing), due, thing)
            self.assertEqual(self.ask((thing, TREE)), ranked_verdict(WEB, (0, 1), 2, (thing, TREE)), thing)
        self.assertEqual(self.ask(((), ())), ("tree", 0))
        self.assertEqual(self.ask(((), None)), ("tree", 0))

    def test_the_first_node_that_is_wrong(self):
        for wrong in (None, (), [], "", "split", 0, True, ("split",), ("join",), ("rest",), ("rest", None),
                      ("join", 5), ("split", 0, GONE, GONE), ("rest", ("none", ())), ["join", 0], TREE):
            for n in range(NODES):
                due = ranked_verdict(WEB, (0, 1), 2, (JOINS[:2], put(TREE, n, wrong)))
                self.assertEqual(self.ask((JOINS[:2], put(TREE, n, wrong))), due, (n, wrong))
                if n > 0 and wrong != TREE:
                    self.assertEqual(due, ("tree", n), (n, wrong))
        for n in range(NODES):
            for wrong in (None, "join", (), [node(TREE, n)], list(node(TREE, n)), (node(TREE, n),)):
                self.assertEqual(self.ask((JOINS[:2], put(TREE, n, wrong))), ("tree", n), (n, wrong))
                # What is wrong further behind is not come to.
                for more in range(n + 1, NODES):
                    spoilt = put(put(TREE, more, ()), n, wrong)
                    self.assertEqual(self.ask((JOINS[:2], spoilt)), ("tree", n))

    def test_with_ahead_of_without(self):
        tree = TREE[:2] + (None, None)
        self.assertEqual(self.ask((JOINS[:2], tree)), ("tree", 1))
        self.assertEqual(self.ask((JOINS[:2], TREE[:3] + (None,))), ("tree", 6))
        self.assertEqual(self.ask((JOINS[:2], TREE[:2] + (TREE[3], TREE[2]))), ("tree", 3))
        self.assertEqual(self.ask((JOINS[:2], TREE[:2] + (None, TREE[3]))), ("tree", 1))

    def test_splits(self):
        for number in [3, -1, 4, 99, BIG, -BIG, -3] + NO_NUMBERS + [None]:
            self.assertEqual(self.ask((JOINS[:2], ("split", number) + TREE[2:])), ("tree", 0), number)
            inner = ("split", number) + TREE[2][2:]
            self.assertEqual(self.ask((JOINS[:2], TREE[:2] + (inner, TREE[3]))), ("tree", 1), number)
        # A tie that is in ins, or in outs.
        self.assertEqual(self.ask((JOINS[:2], put(TREE, 1, ("split", 0, GONE, GONE)))), ("tree", 1))
        self.assertEqual(self.ask((JOINS[:2], put(TREE, 3, ("split", 0, GONE, GONE)))), ("tree", 3))
        self.assertEqual(self.ask((JOINS[:2], put(TREE, 3, ("split", 1, GONE, GONE)))), ("tree", 3))
        self.assertEqual(self.ask((JOINS[:2], put(TREE, 6, ("split", 0, GONE, GONE)))), ("tree", 6))
        for thing in (TREE[:3], TREE + (GONE,), list(TREE), TREE[1:], ("Split",) + TREE[1:], (None,) + TREE[1:],
                      ("split", (0, TREE[2], TREE[3])), ("split", (0,)) + TREE[2:], ("join",) + TREE[1:],
                      ("rest",) + TREE[1:]):
            self.assertEqual(self.ask((JOINS[:2], thing)), ("tree", 0), thing)

    def test_splits_in_another_order(self):
        # By 2, then by 0, then by 1: one rest holds both joins with 2.
        with_two = ("rest", ("least", (2,), 1, ()))
        tree = ("split", 2, with_two, ("split", 0, ("split", 1, GONE, ("join", 0)),
                                       ("split", 1, ("join", 1), GONE)))
        self.assertIsNone(self.ask((JOINS[:2], tree)))
        # A join may stand in a rest, too, as the last one here.
        self.assertIsNone(self.ask((JOINS[:3], tree), 3))
        self.assertEqual(self.ask((JOINS, tree), 4), ("tree", 1))
        self.assertEqual(self.ask((JOINS[:2], tree), 3), ("tree", 1))

    def test_join_leaves(self):
        for k in [1, 2, -1, -2, 99, BIG, False] + NO_NUMBERS:
            self.assertEqual(self.ask((JOINS[:2], put(TREE, 5, ("join", k)))), ("tree", 5), k)
        for k in [0, 2, -1, True] + NO_NUMBERS:
            self.assertEqual(self.ask((JOINS[:2], put(TREE, 9, ("join", k)))), ("tree", 9), k)
        for wrong in (("join",), ("join", 0, 0), ["join", 0], ("Join", 0), (0, "join"), ("join", (0,)), ("rest", 0)):
            self.assertEqual(self.ask((JOINS[:2], put(TREE, 5, wrong))), ("tree", 5), wrong)
        # Ties are left, though what is in is a join already.
        self.assertEqual(self.ask((JOINS[:2], put(TREE, 3, ("join", 0)))), ("tree", 3))
        self.assertEqual(self.ask((JOINS[:2], put(TREE, 7, ("join", 1)))), ("tree", 7))
        self.assertEqual(self.ask((JOINS[:2], ("join", 0))), ("tree", 0))
        self.assertEqual(self.ask((((),), ("join", 0)), 1, (), (2, ((0, 1, 1),))), ("tree", 0))
        # No join is there by that number.
        self.assertEqual(self.ask(((), ("join", 0)), 1, (), (1, ())), ("tree", 0))
        self.assertEqual(self.ask((((),), ("join", 1)), 1, (), (1, ())), ("tree", 0))
        self.assertEqual(self.ask((JOINS[:2], put(WHOLE, 3, ("join", 3)))), ("tree", 3))

    def test_rests_where_joins_are_fewer_than_the_count(self):
        for count in range(3, 9):
            self.assertEqual(self.ask((JOINS[:2], TREE), count), ("tree", 2))
            self.assertEqual(self.ask((JOINS[:2], put(TREE, 2, ("split", 2, ("join", 0), GONE))), count), ("tree", 3))
        last = put(WHOLE, 3, ("rest", ("least", (0, 1, 2), 1, ())))
        self.assertIsNone(self.ask((JOINS[:3], last), 3))
        self.assertEqual(self.ask((JOINS[:3], last), 4), ("tree", 3))
        self.assertEqual(self.ask(((), ("rest", join_paper(WEB, (0, 1)))), 1), ("tree", 0))
        self.assertEqual(self.ask(((), ("rest", ("least", (), 1, ()))), 1, (), (1, ())), ("tree", 0))

    def test_rests_with_a_join_that_is_cheaper_or_just_as_cheap(self):
        for price, due in ((1, ("tree", 10)), (2, None), (3, None)):
            web = (2, ((0, 1, 1), (0, 1, 2), (0, 1, price)))
            rests = [("rest", ("least", join, 1, (((0,), price),))) for join in ((0, 1, 2), (2,))]
            tree = put(put(TREE, 2, rests[0]), 10, rests[1])
            self.assertEqual(self.ask((JOINS[:2], tree), 2, (0, 1), web), due, price)

    def test_rests_that_are_no_forced_papers(self):
        for paper in (None, (), "none", ("none",), ("none", ()), ("none", (0, 1)), ("none", (0,)),
                      ("least", (2,), 1, ()), ("least", (2,), 1, (((0,), 5),)), ("least", (2,), True, (((0,), 4),)),
                      list(LAST_ONE[1]),
                      ALL_THREE[1], ("least", (1,), 1, (((0,), 4),))):
            self.assertEqual(self.ask((JOINS[:2], put(TREE, 10, ("rest", paper)))), ("tree", 10), paper)
        for wrong in (("rest",), LAST_ONE + ((),), list(LAST_ONE), ("Rest", LAST_ONE[1]), LAST_ONE[1],
                      ("rest", LAST_ONE)):
            self.assertEqual(self.ask((JOINS[:2], put(TREE, 10, wrong))), ("tree", 10), wrong)

    def test_trees_of_every_kind(self):
        for thing in ODD_THINGS + [list(TREE), "split", "join", "rest", deep(tuple, 29), deep(list, 29)]:
            self.assertEqual(self.ask((JOINS[:2], thing)), ("tree", 0), thing)
            self.assertEqual(self.ask((JOINS[:2], TREE[:2] + (thing, TREE[3]))), ("tree", 1), thing)
            self.assertEqual(self.ask((JOINS[:2], TREE[:3] + (thing,))), ("tree", 6), thing)

    def test_trees_too_deep_for_the_web(self):
        tree = GONE
        for number in range(25):
            tree = ("split", number % 3, tree, GONE)
        self.assertEqual(self.ask((JOINS[:2], tree))[0], "tree")
        self.assertEqual(self.ask((JOINS[:2], tree)), ranked_verdict(WEB, (0, 1), 2, (JOINS[:2], tree)))
        for last in (0, 1, 2):
            deeper = put(WHOLE, 3, ("split", last, ("join", 3), ("join", 3)))
            self.assertEqual(self.ask((JOINS, deeper), 4), ("tree", 3))
        self.assertEqual(self.ask((((),), ("split", 0, ("join", 0), ("join", 0))), 1, (), (1, ())), ("tree", 0))

    def test_spoiled_papers_are_judged_as_told(self):
        for joins, tree, count in ((JOINS[:2], TREE, 2), (JOINS, WHOLE, 5)):
            for thing in spoiled((joins, tree)):
                self.assertEqual(self.ask(thing, count), ranked_verdict(WEB, (0, 1), count, thing), thing)

    def test_changed_papers_are_judged_as_told(self):
        source = random.Random(173)
        seen = {}
        for web in WEBS:
            by_told = joins_by_told(web)
            for told in source.sample(subsets(range(web[0])), 2) + source.sample(list(by_told), min(6, len(by_told))):
                for _ in range(4):
                    count = source.randint(1, 8)
                    thing = some_change(source, web, told, count)
                    fields = self.ask(thing, count, told, web)
                    self.assertEqual(fields, ranked_verdict(web, told, count, thing), (web, told, count, thing))
                    seen[fields and fields[0]] = True
                    # What is let by is so, whoever wrote it.
                    if fields is None:
                        prices = sorted(own_price(web, join) for join in by_told.get(told, []))
                        self.assertEqual([own_price(web, join) for join in thing[0]], prices[:count])
        self.assertEqual(set(seen), {None, "shape", "join", "tree"})


def some_change(source, web, told, count):
    joins, tree = ranked_paper(web, told, source.choice([count, count, source.randint(1, 8)]))
    nodes = sum(1 for _ in walk(tree))
    n = source.randrange(nodes)
    choice = source.randrange(6)
    if choice == 0 and joins:
        k = source.randrange(len(joins))
        joins = joins[:k] + (source.choice(subsets(range(len(web[1])))),) + joins[k + 1:]
    elif choice == 1 and joins:
        k = source.randrange(len(joins))
        joins = joins[k:] + joins[:k]
    elif choice == 2:
        tree = put(tree, n, node(tree, source.randrange(nodes)))
    elif choice == 3 and node(tree, n)[0] == "rest":
        tree = put(tree, n, ("rest", changed(source, web, node(tree, n)[1])))
    elif choice == 4:
        tree = ("rest", join_paper(web, told))
    return (joins, tree)


def walk(tree):
    yield tree
    if tree[0] == "split":
        yield from walk(tree[2])
        yield from walk(tree[3])
