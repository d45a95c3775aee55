"""Keepers, which hold a least join while prices and told places change."""

from oddjoins.bettering import judged_join
from oddjoins.errors import NoTie
from oddjoins.pairing import least_join
from oddjoins.sharing import join_paper
from oddjoins.webs import by_turns, is_tie_number


# Holds a web, told places and a least join for these, or None where there is none.
class Keeper:
    def __init__(self, web, told):
        self.web = web
        self.told = told
        self.held = least_join(web, told)

    def set_price(self, number, price):
        if not is_tie_number(self.web, number):
            raise NoTie(number)
        self.web = priced_web(self.web, number, price)
        return self.hold_anew()

    def turn_told(self, place, other):
        self.told = by_turns(self.told, (place, other))
        return self.hold_anew()

    # Seeks the join of the web and the told places as they are now, and tells by what it differs from the last one.
    def hold_anew(self):
        ahead = self.held
        self.held = least_join(self.web, self.told)
        return None if ahead is None or self.held is None else by_turns(ahead, self.held)

    def web_now(self):
        return self.web

    def told_now(self):
        return self.told

    def join_now(self):
        return self.held

    def paper_now(self):
        if self.held is None:
            return join_paper(self.web, self.told)
        return judged_join(self.web, self.told, self.held)


# The web with another price of one tie.
def priced_web(web, number, price):
    tie = web[1][number][:2] + (price,)
    return (web[0], web[1][:number] + (tie,) + web[1][number + 1:])
