"""Joins that aren't least: papers that make them better, their checker, and rings that do."""

from oddjoins.differences import change_by
from oddjoins.errors import NoPaper, refuse_some
from oddjoins.joinchecker import refuse_odds
from oddjoins.kinds import is_tuple_of
from oddjoins.rings import rings_of
from oddjoins.sharing import join_paper
from oddjoins.walks import odd_times
from oddjoins.webs import by_turns, is_set, odds_of, price_of


def is_better_kind(web, thing):
    return is_tuple_of(thing, 3) and thing[0] == "better" and is_set(web, thing[1]) and is_set(web, thing[2])


def lets_better(web, told, thing):
    if not is_better_kind(web, thing):
        raise NoPaper("shape", 0)
    refuse_odds(web, told, thing[1])
    refuse_some("even", odds_of(web, thing[2]))
    if change_by(web, thing[1], thing[2]) >= 0:
        raise NoPaper("price", 0)
    return True


def judged_join(web, told, join):
    paper = join_paper(web, told)
    if price_of(web, paper[1]) == price_of(web, join):
        # A least paper shows the price alone: it does for each join of this price.
        return ("least", join, paper[2], paper[3])
    return ("better", join, by_turns(join, paper[1]))


def better_ring(web, told, thing):
    # The rings have no tie in common, so what they change adds up: one of them at least makes it cheaper.
    evens = [odd_times(ring[1]) for ring in rings_of(web, thing[2])]
    return ("better", thing[1], [even for even in evens if change_by(web, thing[1], even) < 0][0])
