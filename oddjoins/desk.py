"""Desks, which are told rows about a web and its told places, and answer each with a text."""

from oddjoins.cutting import most_cut
from oddjoins.errors import NoLine, NoTie
from oddjoins.going import row_price
from oddjoins.keeping import priced_web
from oddjoins.kinds import is_rising
from oddjoins.lining import line_paper
from oddjoins.pairing import least_join
from oddjoins.turning import below
from oddjoins.webs import all_ties, is_tie_number, price_of
from oddjoins.webtexts import read_web, read_whole, web_lines

LOOKS = ("web", "places", "join", "ring", "cut", "tour")
MOST_ROW_NUMBER = 999999
MOST_ROW_PRICE = 99


# Holds its state, a web and told places, the states ahead of each deed that isn't undone, and those that were undone.
class Desk:
    def __init__(self, lines):
        self.state = (read_web(lines), ())
        self.past = []
        self.undone = []

    def say(self, row):
        if row in LOOKS:
            return looked(self.state[0], self.state[1], row)
        if row == "undo":
            return self.shift(self.past, self.undone)
        if row == "redo":
            return self.shift(self.undone, self.past)
        behind = state_behind(self.state, row)
        self.past.append(self.state)
        self.state = behind
        self.undone = []
        return "ok"

    # Goes to the last of the states in source, and keeps the one that it leaves in other.
    def shift(self, source, other):
        if len(source) == 0:
            return "none"
        other.append(self.state)
        self.state = source.pop()
        return "ok"


# The state to which the deed that row tells leads.
def state_behind(state, row):
    words = row.split(" ")
    numbers = tuple([row_number(word) for word in words[1:]])
    if words[0] == "told" and is_rising(numbers):
        refuse_places(state[0], numbers)
        return (state[0], numbers)
    if words[0] == "price" and is_pricing(numbers):
        if not is_tie_number(state[0], numbers[0]):
            raise NoTie(numbers[0])
        return (priced_web(state[0], numbers[0], numbers[1]), state[1])
    raise NoLine(row)


# The number that word writes, None where it writes none, or one with too many figures.
def row_number(word):
    number = read_whole(word)
    return None if number is None or abs(number) > MOST_ROW_NUMBER else number


def refuse_places(web, places):
    beyond = [place for place in places if place >= web[0]]
    if len(beyond) > 0:
        raise NoTie(beyond[0])


# Whether numbers, each perhaps None, are a tie's number, though there may be no such tie, and a price.
def is_pricing(numbers):
    if len(numbers) != 2 or None in numbers:
        return False
    return numbers[0] >= 0 and abs(numbers[1]) <= MOST_ROW_PRICE


def looked(web, told, row):
    if row == "web":
        return "; ".join(web_lines(web))
    if row == "places":
        return " ".join([str(place) for place in told]) if told != () else "-"
    if row == "join":
        return price_text(web, least_join(web, told))
    if row == "ring":
        return price_text(web, least_join(web, ()))
    if below(web) != ():
        return "none"
    return str(most_cut(web)[1]) if row == "cut" else tour_text(web)


def price_text(web, join):
    return "none" if join is None else str(price_of(web, join))


def tour_text(web):
    # Where there are ties the tour has to begin at one, else it would come to a place that it needn't.
    start = web[1][0][0] if len(web[1]) > 0 else 0
    paper = line_paper(web, all_ties(web), start, start)
    return str(row_price(web, paper[1])) if paper[0] == "line" else "none"
