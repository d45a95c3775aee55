"""Tie papers told, and by how much a tie's price may move before they tell otherwise."""

from oddjoins.forcing import forced_paper
from oddjoins.tiechecker import extra_price, tie_word


def tie_paper(web, told, number):
    one = forced_paper(web, told, (number,), ())
    other = forced_paper(web, told, (), (number,))
    return (tie_word(web, one, other), one, other)


def slack_of(web, paper):
    dearer = extra_price(web, paper[1], paper[2])
    return None if dearer is None else abs(dearer)
