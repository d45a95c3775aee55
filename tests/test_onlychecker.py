import random

from oddjoins.forcing import forced_paper
from oddjoins.onlychecker import lets_only
from oddjoins.onlying import only_paper

from tests.samples import NO_SIDES, ODD_THINGS, SMALL_WEBS, joins_by_told, own_odds, own_price, some_webs, subsets
from tests.verdicts import Asked, changed, forced_verdict, only_verdict, spoiled

WEBS = SMALL_WEBS + some_webs(131, 25, ties=(0, 6)) + some_webs(132, 15, places=(2, 4), ties=(2, 6), low=-1, high=1)

# For (0, 1): (1, 2) at 3, (3,) at 4, (0,) at 5, all of these together at 12. Tie 4 can't be in any.
WEB = (5, ((0, 1, 5), (1, 2, 1), (0, 2, 2), (0, 1, 4), (2, 3, 3)))
# The paper of each tie, for the join (1, 2).
PAPERS = (("least", (0,), 1, ()), ("least", (3,), 1, (((1,), 4),)), ("least", (3,), 1, (((0,), 4),)),
          ("least", (3,), 1, ()), ("none", (3,)))


def put(papers, index, paper):
    return papers[:index] + (paper,) + papers[index + 1:]


class LetsOnly(Asked):

    def ask(self, thing, join=(1, 2), told=(0, 1), web=WEB):
        return self.fields(lets_only, web, told, join, thing)

    def test_only_ones(self):
        self.assertIsNone(self.ask(("only", PAPERS)))
        self.assertIsNone(self.ask(("only", put(PAPERS, 4, ("none", (0, 1, 2, 4))))))
        self.assertIsNone(self.ask(("only", ()), (), (), (1, ())))
        self.assertIsNone(self.ask(("only", ()), (), (), (3, ())))
        self.assertIsNone(self.ask(("only", (("none", (1,)),)), (0,), (0, 1), (2, ((0, 1, 7),))))

    def test_other_ones(self):
        for join, even in (((0,), (0, 3)), ((0,), (0, 1, 2)), ((3,), (1, 2, 3)), ((0, 1, 2, 3), (0, 3)),
                           ((0, 1, 2, 3), (1, 2, 3)), ((0, 1, 2, 3), (0, 1, 2))):
            self.assertIsNone(self.ask(("other", even), join), (join, even))

    def test_a_price_just_alike(self):
        # Of (1, 2) and (3,) each at 3 neither is the only one.
        web = (5, WEB[1][:3] + ((0, 1, 3),) + WEB[1][4:])
        for join in ((1, 2), (3,)):
            self.assertIsNone(self.ask(("other", (1, 2, 3)), join, (0, 1), web))
            self.assertEqual(self.ask(("other", (0, 3)), join, (0, 1), web), ("price", 0))
        least = ("least", (3,), 1, (((1,), 3),))
        # The paper of tie 1 is right; only its join is no dearer.
        self.assertIsNone(forced_verdict(web, (0, 1), (), (1,), least))
        self.assertEqual(self.ask(("only", put(PAPERS, 1, least)), (1, 2), (0, 1), web), ("paper", 1))
        # One more, and it is.
        self.assertIsNone(self.ask(("only", PAPERS)))

    def test_the_first_paper_that_is_wrong(self):
        for wrong in (None, (), [], "", True, ("none", (0,)), ("none", ()), ("least", (), 1, ()), PAPERS, [PAPERS[0]],
                      ("least", (0,), 0, ()), ("only", ()), ("least", (1, 2), 1, (((0,), 2), ((1,), 1)))):
            for k in range(5):
                self.assertEqual(self.ask(("only", put(PAPERS, k, wrong))), ("paper", k), wrong)
                for other in range(k):
                    self.assertEqual(self.ask(("only", put(put(PAPERS, k, wrong), other, wrong))), ("paper", other))

    def test_papers_of_another_tie(self):
        for k in range(5):
            for other in range(5):
                due = only_verdict(WEB, (0, 1), (1, 2), ("only", put(PAPERS, k, PAPERS[other])))
                self.assertEqual(self.ask(("only", put(PAPERS, k, PAPERS[other]))), due)
                self.assertEqual(due, None if k == other else ("paper", k), (k, other))
        self.assertEqual(self.ask(("only", PAPERS[::-1])), ("paper", 0))
        # The papers of ties gone the other way, as of another join.
        for join, k in (((3,), 1), ((0,), 0), ((0, 1, 2, 3), 0)):
            self.assertEqual(self.ask(("only", PAPERS), join), ("paper", k))

    def test_a_join_that_is_dearer_than_another(self):
        for join in ((0,), (3,), (0, 1, 2, 3)):
            papers = []
            for k in range(5):
                papers.append(forced_paper(WEB, (0, 1), *(((), (k,)) if k in join else ((k,), ()))))
            first = min(k for k in range(5) if papers[k][0] == "least"
                        and own_price(WEB, papers[k][1]) <= own_price(WEB, join))
            self.assertEqual(self.ask(("only", tuple(papers)), join), ("paper", first))

    def test_even_ahead_of_price(self):
        for even in ((0,), (4,), (0, 1), (3, 4), (0, 1, 2, 4), (0, 1, 2, 3), (1, 2), (0, 1, 2, 3, 4)):
            for join in ((0,), (1, 2), (3,)):
                self.assertEqual(self.ask(("other", even), join), ("even", 0), even)

    def test_price(self):
        for join, even in (((1, 2), (1, 2, 3)), ((1, 2), (0, 1, 2)), ((1, 2), (0, 3)), ((3,), (0, 3)),
                           ((3,), (0, 1, 2))):
            self.assertEqual(self.ask(("other", even), join), ("price", 0), (join, even))

    def test_shapes(self):
        for thing in (("only", PAPERS[:4]), ("only", PAPERS + (PAPERS[4],)), ("only", ()), ("only", list(PAPERS)),
                      ["only", PAPERS], ("only",), ("only", PAPERS, ()), ("Only", PAPERS), (None, PAPERS),
                      ("none", PAPERS), ("other", PAPERS), ("only",) + PAPERS, ("only", PAPERS[0]), ("only", "abcde"),
                      ("only", 5),
                      ("other", ()), ("other",), ("other", (0, 3), ()), ["other", (0, 3)], ("other", [0, 3]),
                      ("other", (3, 0)), ("other", (0, 5)), ("Other", (0, 3)), ("others", (0, 3)),
                      ("other", 0, 3),
                      ("other", (False, 3)), ("other", None), ("none", (3,)), (("other", (0, 3)),), ("only", (0, 3)),
                      (["only"], PAPERS)):
            self.assertEqual(self.ask(thing), ("shape", 0), thing)
        for thing in ODD_THINGS + [("other", some) for some in NO_SIDES] + [("only", some) for some in NO_SIDES]:
            self.assertEqual(self.ask(thing), ("shape", 0), thing)
        for thing in ODD_THINGS:
            self.assertEqual(self.ask(("only", thing)), ("shape", 0), thing)
            self.assertEqual(self.ask(("other", thing)), ("shape", 0), thing)
            self.assertEqual(self.ask(("only", put(PAPERS, 2, thing))), ("paper", 2), thing)

    def test_webs_without_ties(self):
        for web in ((1, ()), (4, ())):
            for thing in (("other", ()), ("only", ((),)), ("only", []), ("other", (0,)), ("only",), ("only", (None,))):
                self.assertEqual(self.ask(thing, (), (), web), ("shape", 0), thing)

    def test_spoiled_papers_are_judged_as_told(self):
        for thing in list(spoiled(("only", PAPERS))) + list(spoiled(("other", (0, 1, 2)))):
            for join in ((1, 2), (0,)):
                self.assertEqual(self.ask(thing, join), only_verdict(WEB, (0, 1), join, thing), thing)

    def test_changed_papers_are_judged_as_told(self):
        source = random.Random(133)
        seen = {}
        for web in WEBS:
            for told, joins in joins_by_told(web).items():
                least = min(own_price(web, join) for join in joins)
                for join in joins[:3] + joins[-1:]:
                    thing = some_change(source, web, only_paper(web, told, join))
                    fields = self.ask(thing, join, told, web)
                    self.assertEqual(fields, only_verdict(web, told, join, thing), (web, told, join, thing))
                    seen[fields and fields[0]] = True
                    # What is let by is so, whoever wrote it.
                    if fields is None:
                        only = [other for other in joins if own_price(web, other) == least] == [join]
                        self.assertEqual(thing[0], "only" if only else "other")
        self.assertEqual(set(seen), {None, "shape", "paper", "even", "price"})


def some_change(source, web, paper):
    if paper[0] == "other" or source.random() < 0.3:
        evens = [some for some in subsets(range(len(web[1]))) if own_odds(web, some) == ()]
        return source.choice([paper, ("other", source.choice(evens)), ("other", source.choice(evens)),
                              ("other", source.choice(subsets(range(len(web[1])))))])
    papers = list(paper[1])
    if papers:
        k = source.randrange(len(papers))
        papers[k] = changed(source, web, source.choice([papers[k], source.choice(papers)]))
    return ("only", tuple(papers))
