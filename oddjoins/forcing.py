"""Forced papers told: least joins with ties that they must have, without such as they mustn't."""

from oddjoins.rests import forced_rest
from oddjoins.sharing import join_paper
from oddjoins.webs import by_turns


def forced_paper(web, told, ins, outs):
    left = forced_rest(web, told, ins, outs)
    paper = join_paper(left[0], left[2])
    if paper[0] == "none":
        return paper
    return ("least", by_turns(ins, tuple([left[1][index] for index in paper[1]])), paper[2], paper[3])
