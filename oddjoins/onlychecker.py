"""The checker of only papers: whether a join is the only one of least price. It seeks nothing."""

from oddjoins.differences import change_by
from oddjoins.errors import NoPaper
from oddjoins.forcedchecker import is_forced_paper
from oddjoins.kinds import is_tuple_of
from oddjoins.webs import is_set, odds_of, price_of


def lets_only(web, told, join, thing):
    if is_tuple_of(thing, 2) and thing[0] == "only" and is_tuple_of(thing[1], len(web[1])):
        return lets_dearer_ones(web, told, join, thing[1])
    if is_tuple_of(thing, 2) and thing[0] == "other" and is_set(web, thing[1]) and thing[1] != ():
        return lets_other(web, join, thing[1])
    raise NoPaper("shape", 0)


# Each other join has some tie that this one lacks, or lacks one that it has: so all of them are dearer.
def lets_dearer_ones(web, told, join, papers):
    for number, paper in enumerate(papers):
        forces = forces_against(join, number)
        if not is_forced_paper(web, told, forces[0], forces[1], paper) or not is_dearer(web, join, paper):
            raise NoPaper("paper", number)
    return True


def lets_other(web, join, even):
    if odds_of(web, even) != ():
        raise NoPaper("even", 0)
    if change_by(web, join, even) > 0:
        raise NoPaper("price", 0)
    return True


# Ins and outs by which the tie goes the other way than it does in join.
def forces_against(join, number):
    return ((), (number,)) if number in join else ((number,), ())


# Whether a forced paper has no join, or one that is dearer than this.
def is_dearer(web, join, paper):
    return paper[0] == "none" or price_of(web, paper[1]) > price_of(web, join)
