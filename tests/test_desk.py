import random
import re
import unittest

from oddjoins.desk import Desk
from oddjoins.errors import JoinError, NoLine, NoText, NoTie
from oddjoins.webtexts import web_lines

from tests.cuts import most_weight, own_all
from tests.goings import hangs, least_going, own_due
from tests.samples import SMALL_WEBS, least_by_told, own_odds, plain_of, priced, some_webs

WEBS = SMALL_WEBS + some_webs(361, 25, places=(1, 6), ties=(0, 8)) + some_webs(362, 15, ties=(1, 8), low=0, high=9)
FULL = some_webs(363, 2, places=(9, 9), ties=(16, 16), low=-99, high=99) + some_webs(364, 2, places=(9, 9), ties=(16, 16),
                                                                                 low=0, high=99)
LOOKS = ("web", "places", "join", "ring", "cut", "tour")

# A ring of three with a tail, and 4 and 5 apart.
LINES = ["web 6", "tie 0 1 2", "tie 1 2 3", "tie 0 2 4", "tie 2 3 1"]


def lines_of(web):
    return [f"web {web[0]}"] + [f"tie {a} {b} {price}" for a, b, price in web[1]]


def own_tour(web):
    """The least price of a closed walk over every tie, None where there is none."""
    every = tuple(range(len(web[1])))
    if not hangs(web, every, own_due(web, every) or {0}):
        return None
    return own_all(web) + least_by_told(web)[own_odds(web, every)]


def own_look(web, told, row):
    plain = all(tie[2] >= 0 for tie in web[1])
    if row == "web":
        return "; ".join(lines_of(web))
    if row == "places":
        return " ".join(map(str, told)) or "-"
    price = {"join": lambda: least_by_told(web).get(told), "ring": lambda: least_by_told(web)[()],
             "cut": lambda: most_weight(web) if plain else None,
             "tour": lambda: own_tour(web) if plain else None}[row]()
    return "none" if price is None else str(price)


class Model:
    """A desk as the document tells it, by all states that it ever had."""

    def __init__(self, web):
        self.states = [(web, ())]
        self.at = 0

    def say(self, row):
        web, told = self.states[self.at]
        if row in LOOKS:
            return own_look(web, told, row)
        if row in ("undo", "redo"):
            goal = self.at + (-1 if row == "undo" else 1)
            if not 0 <= goal < len(self.states):
                return "none"
            self.at = goal
            return "ok"
        number = "(0|[1-9][0-9]{0,5})"
        if re.fullmatch(f"told( {number})*", row):
            places = tuple(int(word) for word in row.split(" ")[1:])
            if list(places) != sorted(set(places)):
                return ("line", row)
            for place in places:
                if place >= web[0]:
                    return ("tie", place)
            return self.do((web, places))
        if re.fullmatch(f"price {number} (0|-?[1-9][0-9]?)", row):
            tie, price = (int(word) for word in row.split(" ")[1:])
            if tie >= len(web[1]):
                return ("tie", tie)
            return self.do((priced(web, tie, price), told))
        return ("line", row)

    def do(self, state):
        self.states = self.states[:self.at + 1] + [state]
        self.at += 1
        return "ok"


def said(desk, row):
    """The answer, or what is refused: ("line", the row), ("tie", the number)."""
    try:
        return desk.say(row)
    except NoLine as refused:
        return ("line", refused.line)
    except NoTie as refused:
        return ("tie", refused.number)


class Desks(unittest.TestCase):

    def both(self, desk, model, row):
        answer = said(desk, row)
        self.assertEqual(answer, model.say(row), row)
        if isinstance(answer, tuple):
            self.assertIs(type(answer[1]), str if answer[0] == "line" else int)
        else:
            self.assertIs(type(answer), str)
        return answer

    def looks(self, desk, model):
        return [self.both(desk, model, row) for row in LOOKS]

    def test_made_anew(self):
        desk = Desk(LINES)
        self.assertEqual([desk.say(row) for row in LOOKS],
                         ["web 6; tie 0 1 2; tie 1 2 3; tie 0 2 4; tie 2 3 1", "-", "0", "0", "8", "11"])
        self.assertEqual((desk.say("undo"), desk.say("redo")), ("none", "none"))
        for web in WEBS + FULL:
            desk = Desk(lines_of(web))
            self.assertEqual(lines_of(web), web_lines(web))
            self.looks(desk, Model(web))

    def test_each_row_and_its_answer(self):
        desk = Desk(LINES)
        for row, answer in (("told 0 3", "ok"), ("places", "0 3"), ("join", "5"), ("price 2 -4", "ok"), ("join", "-3"),
                            ("ring", "0"), ("cut", "none"), ("tour", "none"),
                            ("web", "web 6; tie 0 1 2; tie 1 2 3; tie 0 2 -4; tie 2 3 1"), ("price 2 -99", "ok"),
                            ("ring", "-94"), ("join", "-98"), ("told 0 4", "ok"), ("join", "none"), ("places", "0 4"),
                            ("told 0 1 2", "ok"), ("join", "none"), ("told", "ok"), ("places", "-"), ("join", "-94"),
                            ("told 0 1 2 3 4 5", "ok"), ("places", "0 1 2 3 4 5"), ("join", "none"), ("undo", "ok"),
                            ("undo", "ok"), ("places", "0 1 2"), ("undo", "ok"), ("undo", "ok"), ("undo", "ok"),
                            ("join", "-3"), ("undo", "ok"), ("tour", "11"), ("undo", "ok"), ("places", "-"),
                            ("undo", "none"), ("redo", "ok"), ("places", "0 3"), ("redo", "ok"), ("redo", "ok"),
                            ("ring", "-94"), ("price 0 0", "ok"), ("redo", "none"), ("undo", "ok"),
                            ("web", "web 6; tie 0 1 2; tie 1 2 3; tie 0 2 -99; tie 2 3 1"), ("redo", "ok"),
                            ("web", "web 6; tie 0 1 0; tie 1 2 3; tie 0 2 -99; tie 2 3 1")):
            self.assertEqual(desk.say(row), answer, row)

    def test_rows_that_are_none(self):
        desk = Desk(LINES)
        model = Model((6, ((0, 1, 2), (1, 2, 3), (0, 2, 4), (2, 3, 1))))
        self.both(desk, model, "told 0 3")
        self.both(desk, model, "price 0 9")
        self.both(desk, model, "undo")
        ahead = self.looks(desk, model)
        rows = ["", " ", "  ", "told ", " told", "told  0", "told 0 ", "told 0  1", " told 0", "Told 0", "TOLD", "tell 0",
                "told0", "told -1", "told -0", "told +1", "told 00", "told 01", "told 0 01", "told 1 0", "told 0 0",
                "told 2 2", "told 0 2 1", "told 5 5", "told a", "told 0,1", "told 0;1", "told 1000000", "told 0 1000000",
                "told 99 98", "told 99 99", "told 99 x", "told 99 -1", "told -", "told 1.0", "told 0x1", "told 1e0",
                "price", "price 0", "price 0 ", "price 0 1 ", "price 0 1 2", "price  0 1", "price 0  1", " price 0 1",
                "price 0 100", "price 0 -100", "price 0 -0", "price 0 00", "price 0 01", "price 0 -01", "price 0 +1",
                "price 0 --1", "price 0 1-", "price -1 1", "price -0 1", "price 00 1", "price 01 1", "price +0 1",
                "price 1000000 1", "price 0 1000000", "price 0 a", "price a 0", "price 9 100", "price 99 -100",
                "price 99 x", "price 0 999999", "Price 0 1", "price,0,1", "price 0 1;", "undo ", " undo", "undo 1",
                "undo undo", "Undo", "redo ", " redo", "redo 0", "web ", " web", "web 6", "webs", "Web", "places ",
                "place", "places 0", "join ", "join 0", "join 0 3", "joins", "ring ", "ring 1", "cut ", "cut 0",
                "tour ", "tour 0", "tours", "none", "ok", "-", "0", "tie 0 1 2", "web 6; tie 0 1 2", "\\n", "~", "!",
                "x" * 5000, " " * 5000, "told" + " 0" * 2000]
        for row in rows:
            self.assertEqual(self.both(desk, model, row), ("line", row))
        self.assertEqual(self.looks(desk, model), ahead)
        self.assertEqual(self.both(desk, model, "redo"), "ok")

    def test_numbers_that_there_are_not(self):
        desk = Desk(LINES)
        model = Model((6, ((0, 1, 2), (1, 2, 3), (0, 2, 4), (2, 3, 1))))
        self.both(desk, model, "told 0 3")
        self.both(desk, model, "told 1 3")
        self.both(desk, model, "undo")
        ahead = self.looks(desk, model)
        for row, number in (("told 6", 6), ("told 0 6", 6), ("told 0 5 6 7", 6), ("told 7 8", 7), ("told 999999", 999999),
                            ("told 0 1 2 3 4 5 99", 99), ("price 4 1", 4), ("price 5 -99", 5), ("price 999999 99", 999999),
                            ("price 100000 0", 100000)):
            self.assertEqual(self.both(desk, model, row), ("tie", number), row)
            self.assertEqual(self.looks(desk, model), ahead)
        # What was refused neither shuts what is undone nor is itself undone.
        self.assertEqual(self.both(desk, model, "redo"), "ok")
        self.assertEqual(self.both(desk, model, "places"), "1 3")
        self.assertEqual(self.both(desk, model, "undo"), "ok")
        self.assertEqual(self.both(desk, model, "undo"), "ok")
        self.assertEqual(self.both(desk, model, "undo"), "none")
        desk = Desk(["web 1"])
        self.assertEqual(said(desk, "price 0 1"), ("tie", 0))
        self.assertEqual(said(desk, "told 1"), ("tie", 1))
        self.assertEqual(said(desk, "told 0"), "ok")

    def test_refusals_keep_the_very_row(self):
        row = "told 1 1"
        with self.assertRaises(NoLine) as refused:
            Desk(LINES).say(row)
        self.assertIs(refused.exception.line, row)
        self.assertIsInstance(refused.exception, JoinError)

    def test_undo_and_redo_to_the_very_ends(self):
        desk = Desk(LINES)
        model = Model((6, ((0, 1, 2), (1, 2, 3), (0, 2, 4), (2, 3, 1))))
        seen = [self.looks(desk, model)]
        # Deeds that change nothing count, too.
        for row in ("told 0 3", "price 1 -7", "told", "told", "price 1 -7", "price 0 99", "told 0 1", "price 3 -99"):
            self.both(desk, model, row)
            seen.append(self.looks(desk, model))
        for look in seen[-2::-1]:
            self.assertEqual(self.both(desk, model, "undo"), "ok")
            self.assertEqual(self.looks(desk, model), look)
        for _ in range(2):
            self.assertEqual(self.both(desk, model, "undo"), "none")
            self.assertEqual(self.looks(desk, model), seen[0])
        for look in seen[1:]:
            self.assertEqual(self.both(desk, model, "redo"), "ok")
            self.assertEqual(self.looks(desk, model), look)
        for _ in range(2):
            self.assertEqual(self.both(desk, model, "redo"), "none")
            self.assertEqual(self.looks(desk, model), seen[-1])

    def test_redo_is_shut_by_a_new_deed(self):
        for deed in ("told 0 3", "price 0 2", "told", "price 1 -1"):
            desk = Desk(LINES)
            for row in ("told 0 3", "price 0 5", "undo", "undo", deed):
                self.assertEqual(desk.say(row), "ok")
            self.assertEqual(desk.say("redo"), "none")
            self.assertEqual(desk.say("undo"), "ok")
            self.assertEqual(desk.say("redo"), "ok")
            self.assertEqual(desk.say("redo"), "none")
        # What looks, and undoing more, does not shut it.
        desk = Desk(LINES)
        for row in ("told 0 3", "price 0 5", "undo") + LOOKS + ("undo", "undo", "web", "redo", "redo"):
            desk.say(row)
        self.assertEqual(desk.say("web"), "web 6; tie 0 1 5; tie 1 2 3; tie 0 2 4; tie 2 3 1")

    def test_webs_of_two_parts_and_without_ties(self):
        desk = Desk(["web 4", "tie 0 1 5", "tie 2 3 6"])
        self.assertEqual([desk.say(row) for row in LOOKS[1:]], ["-", "0", "0", "11", "none"])
        self.assertEqual([desk.say(row) for row in ("told 0 2", "join", "told 0 1 2 3", "join", "told 2 3", "join")],
                         ["ok", "none", "ok", "11", "ok", "6"])
        # A place without ties doesn't keep ties from hanging together.
        desk = Desk(["web 5", "tie 2 4 5", "tie 3 4 6"])
        self.assertEqual(desk.say("tour"), "22")
        self.assertEqual(Desk(["web 3", "tie 1 2 5"]).say("tour"), "10")
        for many in (1, 9):
            desk = Desk([f"web {many}"])
            self.assertEqual([desk.say(row) for row in LOOKS], [f"web {many}", "-", "0", "0", "0", "0"])
            self.assertEqual([desk.say(row) for row in ("told 0", "join", "undo", "join")], ["ok", "none", "ok", "0"])

    def test_tours_against_going_through_all(self):
        for web in [plain_of(web) for web in WEBS]:
            if len(web[1]) <= 7:
                every = tuple(range(len(web[1])))
                start = web[1][0][0] if web[1] else 0
                least = least_going(web, every, start, start, False)
                self.assertEqual(Desk(lines_of(web)).say("tour"), "none" if least is None else str(least))

    def test_lines_that_are_no_web(self):
        for lines, row, word in (([], 0, 0), ([""], 0, 0), (["web"], 0, 1), (["web 0"], 0, 1), (["web 61"], 0, 1),
                                 (["web 2 "], 0, 2), (["web 2", "tie 0 1"], 1, 3), (["web 2", "tie 0 1 5", "tie 1 1 5"], 2, 1),
                                 (["web 3", "tie 1 1 5"], 1, 2), (["web 3", "tie 0 1 05"], 1, 3), (["web 3", "web 3"], 1, 0),
                                 (["web 3", ""], 1, 0), (["web 3; tie 0 1 2"], 0, 1)):
            ahead = list(lines)
            with self.assertRaises(NoText) as refused:
                Desk(lines)
            self.assertEqual((refused.exception.row, refused.exception.word), (row, word), lines)
            self.assertEqual(lines, ahead)

    def test_two_desks_of_one_list_of_lines(self):
        lines = list(LINES)
        one = Desk(lines)
        other = Desk(lines)
        kept = [other.say(row) for row in LOOKS]
        for row in ("told 0 3", "price 0 -9", "undo", "price 1 9"):
            one.say(row)
            self.assertEqual([other.say(row) for row in LOOKS], kept)
        self.assertEqual(other.say("undo"), "none")
        self.assertEqual(other.say("redo"), "none")
        self.assertEqual(lines, LINES)
        # The list changed behind.
        lines[1] = "tie 0 1 50"
        lines.append("tie 3 4 5")
        self.assertEqual([other.say(row) for row in LOOKS], kept)
        self.assertEqual(one.say("web"), "web 6; tie 0 1 2; tie 1 2 9; tie 0 2 4; tie 2 3 1")
        lines.clear()
        self.assertEqual([other.say(row) for row in LOOKS], kept)

    def test_looks_behind_each_of_many_deeds(self):
        source = random.Random(365)
        for web in WEBS + FULL:
            desk = Desk(lines_of(web))
            model = Model(web)
            for _ in range(25 if web[0] < 9 else 10):
                self.both(desk, model, some_row(source, web))
                self.looks(desk, model)

    def test_what_looks_changes_nothing(self):
        desk = Desk(LINES)
        for row in ("told 0 3", "price 0 5", "undo"):
            desk.say(row)
        first = [desk.say(row) for row in LOOKS]
        for _ in range(3):
            self.assertEqual([desk.say(row) for row in LOOKS], first)
        self.assertEqual([desk.say(row) for row in ("redo", "redo", "undo", "undo", "undo")],
                         ["ok", "none", "ok", "ok", "none"])


def some_row(source, web):
    choice = source.randrange(10)
    if choice < 3:
        places = source.sample(range(web[0] + 1), source.randint(0, web[0]))
        return " ".join(["told"] + [str(place) for place in (sorted(places) if choice else places)])
    if choice < 6:
        price = source.choice((source.randint(-101, 101), source.randint(0, 9), source.randint(-2, 2)))
        return f"price {source.randint(0, len(web[1]))} {price}"
    return source.choice(("undo", "undo", "redo", "redo", "undo 1", "told  0", "price 0"))
