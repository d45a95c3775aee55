"""The checker of rank papers: the cheapest joins, and a tree that shows that no other one is cheaper. It seeks nothing.

A branch of the tree is (tree, ins, outs): the tree speaks of the joins with all of ins and none of outs alone.
"""

from oddjoins.errors import NoPaper
from oddjoins.forcedchecker import is_forced_paper
from oddjoins.kinds import is_tuple_of, is_whole_from
from oddjoins.webs import by_turns, is_set, is_tie_number, odds_of, price_of


def lets_ranked(web, told, count, thing):
    if not is_ranked_kind(web, count, thing):
        raise NoPaper("shape", 0)
    refuse_joins(web, told, thing[0])
    refuse_tree(web, told, count, thing[0], thing[1])
    return True


def is_ranked_kind(web, count, thing):
    if not is_tuple_of(thing, 2) or not isinstance(thing[0], tuple) or len(thing[0]) > count:
        return False
    return all([is_set(web, join) for join in thing[0]])


def refuse_joins(web, told, joins):
    for index, join in enumerate(joins):
        ahead = joins[:index]
        if odds_of(web, join) != told or join in ahead:
            raise NoPaper("join", index)
        if index > 0 and price_of(web, join) < price_of(web, ahead[-1]):
            raise NoPaper("join", index)


def refuse_tree(web, told, count, joins, tree):
    waiting = [(tree, (), ())]
    right = 0
    while len(waiting) > 0:
        branch = waiting.pop()
        if is_split(web, branch):
            waiting.extend(branches_of(branch))
        elif not is_join_leaf(web, joins, branch) and not is_rest_leaf(web, told, count, joins, branch):
            raise NoPaper("tree", right)
        right += 1


def is_split(web, branch):
    tree = branch[0]
    if not is_tuple_of(tree, 4) or tree[0] != "split" or not is_tie_number(web, tree[1]):
        return False
    return tree[1] not in branch[1] and tree[1] not in branch[2]


# Both branches of a split, the one with the tie last: it is gone through first.
def branches_of(branch):
    number = branch[0][1]
    without = (branch[0][3], branch[1], by_turns(branch[2], (number,)))
    return [without, (branch[0][2], by_turns(branch[1], (number,)), branch[2])]


def is_join_leaf(web, joins, branch):
    tree = branch[0]
    if not is_tuple_of(tree, 2) or tree[0] != "join" or not is_whole_from(tree[1], 0) or tree[1] >= len(joins):
        return False
    return joins[tree[1]] == branch[1] and len(branch[1]) + len(branch[2]) == len(web[1])


def is_rest_leaf(web, told, count, joins, branch):
    tree = branch[0]
    if not is_tuple_of(tree, 2) or tree[0] != "rest":
        return False
    paper = tree[1]
    if not is_forced_paper(web, told, branch[1], branch[2], paper):
        return False
    # Only where no more joins are asked for may there be others, if none of them is cheaper.
    return paper[0] == "none" or (len(joins) == count and price_of(web, paper[1]) >= price_of(web, joins[-1]))
