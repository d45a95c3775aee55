"""The turned web, in which no price is below nought, and what is turned with it."""

from oddjoins.webs import by_turns, odds_of


def below(web):
    return tuple([number for number, tie in enumerate(web[1]) if tie[2] < 0])


def turned(web):
    return (web[0], tuple([(low, high, abs(price)) for low, high, price in web[1]]))


def turned_told(web, told):
    return by_turns(told, odds_of(web, below(web)))


def turned_set(web, some):
    return by_turns(some, below(web))
