"""Rank papers told: the cheapest joins, found one behind the other, and the tree that shows them to be so."""

from oddjoins.forcing import forced_paper
from oddjoins.webs import price_of


def ranked_paper(web, told, count):
    papers = {}
    joins = ()
    tree = tree_over(web, told, joins, papers, (), ())
    offers = joins_beyond(tree)
    while len(joins) < count and len(offers) > 0:
        joins = joins + (cheapest(web, offers),)
        tree = tree_over(web, told, joins, papers, (), ())
        offers = joins_beyond(tree)
    return (joins, tree)


# The tree by ins and outs with a leaf for each of joins that has all of ins and none of outs, and rests for all else.
# Papers holds the forced papers found so far, by ins and outs; it is filled on the way.
def tree_over(web, told, joins, papers, ins, outs):
    within = [index for index, join in enumerate(joins) if has_forced(join, ins, outs)]
    if len(within) == 0:
        if (ins, outs) not in papers:
            papers[(ins, outs)] = forced_paper(web, told, ins, outs)
        return ("rest", papers[(ins, outs)])
    # The ties are forced in their order.
    number = len(ins) + len(outs)
    if number == len(web[1]):
        return ("join", within[0])
    one = tree_over(web, told, joins, papers, ins + (number,), outs)
    return ("split", number, one, tree_over(web, told, joins, papers, ins, outs + (number,)))


def has_forced(join, ins, outs):
    return all([number in join for number in ins]) and not any([number in join for number in outs])


# The least join of each rest of the tree that has one: all joins that aren't leaves are no cheaper than some of these.
def joins_beyond(tree):
    if tree[0] == "split":
        return joins_beyond(tree[2]) + joins_beyond(tree[3])
    return [tree[1][1]] if tree[0] == "rest" and tree[1][0] == "least" else []


def cheapest(web, joins):
    return min([(price_of(web, join), join) for join in joins])[1]
