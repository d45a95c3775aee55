"""Webs without some of their ties."""

from oddjoins.webs import by_turns, odds_of


def rest_of(web, some):
    numbers = tuple([number for number in range(len(web[1])) if number not in some])
    return ((web[0], tuple([web[1][number] for number in numbers])), numbers)


# What is left of the question for a join with ins and without outs, as (rest, numbers, told): ties that are forced
# either way are gone, and those of ins have turned the told places at their ends.
def forced_rest(web, told, ins, outs):
    return rest_of(web, by_turns(ins, outs)) + (by_turns(told, odds_of(web, ins)),)
