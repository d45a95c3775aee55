import random

from oddjoins.forcing import forced_paper
from oddjoins.tiechecker import lets_tie
from oddjoins.tiewords import tie_paper

from tests.samples import NO_SIDES, ODD_THINGS, SMALL_WEBS, joins_by_told, own_price, some_webs, subsets
from tests.verdicts import Asked, changed, due_word, spoiled, tie_verdict

WEBS = SMALL_WEBS + some_webs(111, 25, ties=(1, 7)) + some_webs(112, 15, places=(2, 4), ties=(3, 6), low=-1, high=1)
WORDS = ("none", "always", "never", "sometimes")

# For (0, 1): (3,) and (1, 2) at 3, (0,) at 5, all three together at 11; tie 4 is in none of them, nor can it be.
WEB = (5, ((0, 1, 5), (1, 2, 1), (0, 2, 2), (0, 1, 3), (2, 3, 3)))


def own_word(web, number, joins):
    """By going through all joins for the told places."""
    if not joins:
        return "none"
    least = min(own_price(web, join) for join in joins)
    has = [number in join for join in joins if own_price(web, join) == least]
    return "always" if all(has) else "sometimes" if any(has) else "never"


class LetsTie(Asked):

    def ask(self, number, thing, told=(0, 1), web=WEB):
        return self.fields(lets_tie, web, told, number, thing)

    def test_each_word(self):
        # With tie 1 and without it, both at 3.
        one = ("least", (1, 2), 1, (((0,), 2),))
        other = ("least", (3,), 1, (((1,), 3),))
        self.assertIsNone(self.ask(1, ("sometimes", one, other)))
        # With tie 0 at 5, without it at 3; and in a web where it costs 2.
        one = ("least", (0,), 1, ())
        other = ("least", (3,), 1, (((0,), 2), ((1,), 1)))
        self.assertIsNone(self.ask(0, ("never", one, other)))
        self.assertIsNone(self.ask(0, ("never", one, ("least", (1, 2)) + other[2:])))
        cheap = (5, ((0, 1, 2),) + WEB[1][1:])
        self.assertIsNone(self.ask(0, ("always", one, other), (0, 1), cheap))
        even = (5, ((0, 1, 3),) + WEB[1][1:])
        self.assertIsNone(self.ask(0, ("sometimes", one, other), (0, 1), even))
        # Tie 4 alone leads to place 3.
        self.assertIsNone(self.ask(4, ("never", ("none", (3,)), ("least", (3,), 1, (((0,), 2), ((1,), 1))))))
        self.assertIsNone(self.ask(4, ("always", ("least", (4,), 1, ()), ("none", (3,))), (2, 3)))
        self.assertIsNone(self.ask(4, ("none", ("none", (4,)), ("none", (3,))), (3, 4)))
        self.assertIsNone(self.ask(0, ("none", ("none", (4,)), ("none", (0, 1, 2, 3))), (0, 4)))

    def test_another_word_is_due(self):
        right = [(1, (0, 1), WEB), (0, (0, 1), WEB), (4, (0, 1), WEB), (4, (2, 3), WEB), (4, (3, 4), WEB),
                 (0, (0, 4), WEB), (0, (0, 1), (5, ((0, 1, 2),) + WEB[1][1:]))]
        seen = {}
        for number, told, web in right:
            paper = tie_paper(web, told, number)
            seen[paper[0]] = True
            for word in WORDS:
                due = None if word == paper[0] else ("word", 0)
                self.assertEqual(self.ask(number, (word,) + paper[1:], told, web), due)
        self.assertEqual(set(seen), set(WORDS))

    def test_papers_exchanged(self):
        for number, told, due in ((0, (0, 1), ("ins", 0)), (1, (0, 1), ("ins", 1)), (4, (0, 1), ("ins", 4)),
                                  (4, (2, 3), ("side", 0)), (0, (2, 3), ("ins", 0))):
            word, one, other = tie_paper(WEB, told, number)
            for swapped in WORDS:
                self.assertEqual(self.ask(number, (swapped, other, one), told), due, (number, told))

    def test_papers_of_another_tie(self):
        paper = tie_paper(WEB, (0, 1), 0)
        for number in range(1, 5):
            self.assertEqual(self.ask(number, paper), ("ins", number))
            mixed = (paper[0], tie_paper(WEB, (0, 1), number)[1], paper[2])
            self.assertEqual(self.ask(number, mixed), tie_verdict(WEB, (0, 1), number, mixed))

    def test_one_ahead_of_other_ahead_of_word(self):
        word, one, other = tie_paper(WEB, (0, 1), 0)
        self.assertEqual(word, "never")
        for wrong in WORDS:
            self.assertEqual(self.ask(0, (wrong, None, None)), ("shape", 0))
            self.assertEqual(self.ask(0, (wrong, ("least", (3,), 0, ()), None)), ("ins", 0))
            self.assertEqual(self.ask(0, (wrong, ("least", (0,), 1, (((0,), 1),)), None)), ("side", 0))
            self.assertEqual(self.ask(0, (wrong, ("least", (0, 1, 2, 3), 1, ()), [])), ("sum", 0))
            self.assertEqual(self.ask(0, (wrong, ("none", (0,)), [])), ("tie", 1))
            self.assertEqual(self.ask(0, (wrong, ("none", (4,)), [])), ("side", 0))
            self.assertEqual(self.ask(0, (wrong, one, None)), ("shape", 0))
            self.assertEqual(self.ask(0, (wrong, one, one)), ("outs", 0))
            self.assertEqual(self.ask(0, (wrong, one, ("least", (), 1, ()))), ("odds", 0))
            self.assertEqual(self.ask(0, (wrong, one, ("least", (3,), 1, ()))), ("sum", 0))
            self.assertEqual(self.ask(0, (wrong, one, ("least", (3,), 1, (((0,), 4),)))), ("tie", 1))
            self.assertEqual(self.ask(0, (wrong, one, ("none", (0, 1)))), ("tie", 0))
            self.assertEqual(self.ask(0, (wrong, one, other)), None if wrong == "never" else ("word", 0))

    def test_shapes(self):
        right = tie_paper(WEB, (0, 1), 1)
        for thing in (right[:2], right + ((),), right[1:], list(right), ("Never",) + right[1:], ("",) + right[1:],
                      ("least",) + right[1:], (None,) + right[1:], (True,) + right[1:], (0,) + right[1:],
                      (["never"],) + right[1:], (("never",),) + right[1:], (WORDS,) + right[1:], ("only",) + right[1:],
                      ("alwaysnever", None, None), (right,), (right[0], right[1:])):
            self.assertEqual(self.ask(1, thing), ("shape", 0), thing)
        for thing in ODD_THINGS:
            self.assertEqual(self.ask(1, thing), ("shape", 0), thing)
            self.assertEqual(self.ask(1, ("never", thing, right[2])), ("shape", 0), thing)
            self.assertEqual(self.ask(1, ("never", right[1], thing)), ("shape", 0), thing)
            self.assertEqual(self.ask(1, (thing,) + right[1:]),
                             ("word", 0) if isinstance(thing, str) and thing == "none" else ("shape", 0), thing)
        for side in NO_SIDES:
            self.assertEqual(self.ask(1, ("never", ("none", side), right[2])), ("shape", 0), side)
            self.assertEqual(self.ask(1, ("never", right[1], ("least", side, 1, ()))), ("shape", 0), side)

    def test_spoiled_papers_are_judged_as_told(self):
        for number, told in ((0, (0, 1)), (1, (0, 1)), (4, (0, 1)), (4, (2, 3)), (0, (0, 4))):
            for thing in spoiled(tie_paper(WEB, told, number)):
                self.assertEqual(self.ask(number, thing, told), tie_verdict(WEB, told, number, thing), thing)

    def test_changed_papers_are_judged_as_told(self):
        source = random.Random(113)
        seen = {}
        for web in WEBS:
            by_told = joins_by_told(web)
            for number in range(len(web[1])):
                for told in source.sample(subsets(range(web[0])), 2) + source.sample(list(by_told), 2):
                    thing = some_change(source, web, told, number)
                    fields = self.ask(number, thing, told, web)
                    self.assertEqual(fields, tie_verdict(web, told, number, thing), (web, told, number, thing))
                    seen[fields and fields[0]] = True
                    # What is let by is so, whoever wrote it.
                    if fields is None:
                        self.assertEqual(thing[0], own_word(web, number, by_told.get(told, [])))
        self.assertEqual(set(seen), {None, "shape", "ins", "outs", "odds", "side", "tie", "sum", "word"})


def some_change(source, web, told, number):
    word, one, other = tie_paper(web, told, number)
    choice = source.randrange(6)
    if choice == 0:
        one = changed(source, web, one)
    elif choice == 1:
        other = changed(source, web, other)
    elif choice == 2:
        one, other = other, one
    elif choice == 3:
        other = forced_paper(web, told, (), ())
    elif choice == 4:
        word = source.choice(WORDS)
    else:
        word = due_word(web, one, other)
    return (word, one, other)
