"""What is due of papers, as the document tells it, without the program; and papers with something in them changed."""

import copy
import itertools
import unittest

from oddjoins.errors import NoPaper

from tests.samples import (BIG, is_number, own_below, own_cut, own_is_rising, own_odds, own_price, own_turns, refusal,
                           subsets)


def own_is_above(thing):
    return is_number(thing) and thing > 0


def own_bound(web, told, thing):
    """((number, bottom), None), or (None, the fields that are due): as the document tells it."""
    if not (type(thing) is tuple and len(thing) == 2 and own_is_above(thing[0]) and type(thing[1]) is tuple):
        return (None, ("shape", 0))
    for row in thing[1]:
        if not (type(row) is tuple and len(row) == 2 and own_is_rising(row[0], web[0]) and own_is_above(row[1])):
            return (None, ("shape", 0))
    bottom, rows = thing
    flipped = own_turns(told, own_odds(web, own_below(web)))
    for k, (side, _) in enumerate(rows):
        if len(set(side) & set(flipped)) % 2 == 0:
            return (None, ("side", k))
    for n, tie in enumerate(web[1]):
        if sum(share for side, share in rows if n in own_cut(web, side)) > bottom * abs(tie[2]):
            return (None, ("tie", n))
    return ((sum(share for _, share in rows) + bottom * own_price(web, own_below(web)), bottom), None)


def join_verdict(web, told, thing):
    """The fields of the refusal that is due, None where thing is a paper."""
    if type(thing) is tuple and len(thing) == 4 and thing[0] == "least" and own_is_rising(thing[1], len(web[1])):
        told_bound, fields = own_bound(web, told, thing[2:])
        wrong = own_turns(told, own_odds(web, thing[1]))
        if fields == ("shape", 0):
            return fields
        if wrong:
            return ("odds", wrong[0])
        if fields is not None:
            return fields
        return None if told_bound[0] == told_bound[1] * own_price(web, thing[1]) else ("sum", 0)
    if type(thing) is tuple and len(thing) == 2 and thing[0] == "none" and own_is_rising(thing[1], web[0]):
        if own_cut(web, thing[1]):
            return ("tie", own_cut(web, thing[1])[0])
        return None if len(set(thing[1]) & set(told)) % 2 else ("side", 0)
    return ("shape", 0)


def better_verdict(web, told, thing):
    """The fields of the refusal that is due, None where thing is a paper: as the document tells it."""
    if not (type(thing) is tuple and len(thing) == 3 and thing[0] == "better" and own_is_rising(thing[1], len(web[1]))
            and own_is_rising(thing[2], len(web[1]))):
        return ("shape", 0)
    wrong = own_turns(told, own_odds(web, thing[1]))
    if wrong:
        return ("odds", wrong[0])
    if own_odds(web, thing[2]):
        return ("even", own_odds(web, thing[2])[0])
    return None if own_price(web, own_turns(thing[1], thing[2])) < own_price(web, thing[1]) else ("price", 0)


def own_is_tuple(thing, count):
    return type(thing) is tuple and len(thing) == count


def own_is_round(web, thing):
    if not (own_is_tuple(thing, 2) and is_number(thing[0]) and 0 <= thing[0] < web[0] and type(thing[1]) is tuple):
        return False
    if thing[1] == () or not all(is_number(number) and 0 <= number < len(web[1]) for number in thing[1]):
        return False
    place = thing[0]
    for number in thing[1]:
        a, b, _ = web[1][number]
        if place not in (a, b):
            return False
        place = a + b - place
    return place == thing[0] and len(set(thing[1])) == len(thing[1])


def below_verdict(web, thing):
    if own_is_tuple(thing, 3) and thing[0] == "ring":
        if not own_is_round(web, thing[1:]):
            return ("ring", 0)
        return None if own_price(web, thing[2]) < 0 else ("price", 0)
    if own_is_tuple(thing, 3) and thing[0] == "none":
        return join_verdict(web, (), ("least", ()) + thing[1:])
    return ("shape", 0)


def own_rest(web, some):
    left = [(number, tie) for number, tie in enumerate(web[1]) if number not in some]
    return ((web[0], tuple(tie for _, tie in left)), tuple(number for number, _ in left))


def forced_verdict(web, told, ins, outs, thing):
    rest, numbers = own_rest(web, ins + outs)
    told = own_turns(told, own_odds(web, ins))
    if own_is_tuple(thing, 2) and thing[0] == "none":
        return join_verdict(rest, told, thing)
    if not (own_is_tuple(thing, 4) and thing[0] == "least" and own_is_rising(thing[1], len(web[1]))):
        return ("shape", 0)
    for number in ins:
        if number not in thing[1]:
            return ("ins", number)
    for number in outs:
        if number in thing[1]:
            return ("outs", number)
    inner = tuple(numbers.index(number) for number in thing[1] if number not in ins)
    return join_verdict(rest, told, ("least", inner) + thing[2:])


def due_word(web, one, other):
    if one[0] == "none" and other[0] == "none":
        return "none"
    if other[0] == "none" or (one[0] == "least" and own_price(web, other[1]) > own_price(web, one[1])):
        return "always"
    if one[0] == "none" or own_price(web, one[1]) > own_price(web, other[1]):
        return "never"
    return "sometimes"


def tie_verdict(web, told, number, thing):
    if not own_is_tuple(thing, 3) or thing[0] not in ("none", "always", "never", "sometimes"):
        return ("shape", 0)
    fields = forced_verdict(web, told, (number,), (), thing[1])
    if fields is None:
        fields = forced_verdict(web, told, (), (number,), thing[2])
    if fields is None and thing[0] != due_word(web, thing[1], thing[2]):
        fields = ("word", 0)
    return fields


def only_verdict(web, told, join, thing):
    if not own_is_tuple(thing, 2):
        return ("shape", 0)
    if thing[0] == "only" and own_is_tuple(thing[1], len(web[1])):
        for k, paper in enumerate(thing[1]):
            ins, outs = ((), (k,)) if k in join else ((k,), ())
            if forced_verdict(web, told, ins, outs, paper) is not None:
                return ("paper", k)
            if paper[0] == "least" and own_price(web, paper[1]) <= own_price(web, join):
                return ("paper", k)
        return None
    if thing[0] == "other" and own_is_rising(thing[1], len(web[1])) and thing[1]:
        if own_odds(web, thing[1]):
            return ("even", 0)
        return None if own_price(web, own_turns(join, thing[1])) <= own_price(web, join) else ("price", 0)
    return ("shape", 0)


def nodes_right(web, told, count, joins, tree, ins, outs):
    """Of each split, join and rest, as it is gone through, whether it is as told; ended by one that isn't."""
    right = False
    if own_is_tuple(tree, 4) and tree[0] == "split" and is_number(tree[1]):
        right = 0 <= tree[1] < len(web[1]) and tree[1] not in ins + outs
    elif own_is_tuple(tree, 2) and tree[0] == "join" and is_number(tree[1]) and 0 <= tree[1] < len(joins):
        right = set(ins + outs) == set(range(len(web[1]))) and joins[tree[1]] == ins
    elif own_is_tuple(tree, 2) and tree[0] == "rest" and forced_verdict(web, told, ins, outs, tree[1]) is None:
        right = tree[1][0] == "none" or (len(joins) == count
                                         and own_price(web, tree[1][1]) >= own_price(web, joins[-1]))
    yield right
    if right and tree[0] == "split":
        yield from nodes_right(web, told, count, joins, tree[2], own_turns(ins, (tree[1],)), outs)
        yield from nodes_right(web, told, count, joins, tree[3], ins, own_turns(outs, (tree[1],)))


def ranked_verdict(web, told, count, thing):
    if not (own_is_tuple(thing, 2) and type(thing[0]) is tuple and len(thing[0]) <= count
            and all(own_is_rising(join, len(web[1])) for join in thing[0])):
        return ("shape", 0)
    joins = thing[0]
    for k, join in enumerate(joins):
        if (own_odds(web, join) != told or join in joins[:k]
                or any(own_price(web, join) < own_price(web, other) for other in joins[:k][-1:])):
            return ("join", k)
    for n, right in enumerate(nodes_right(web, told, count, joins, thing[1], (), ())):
        if not right:
            return ("tree", n)
    return None


class Asked(unittest.TestCase):
    """Asks checkers: what they tell is True, or a refusal's fields; what they look at stays as it was."""

    def fields(self, lets, *asked):
        ahead = copy.deepcopy(asked)
        told, fields = refusal(NoPaper, lets, *asked)
        self.assertEqual(repr(asked), repr(ahead))
        if fields is None:
            self.assertIs(told, True)
        else:
            self.assertEqual([type(field) for field in fields], [str, int])
        return fields


# What is put in the place of each thing within a paper, at whatever depth.
SPOILERS = [None, True, False, 0, 1, 2, -1, BIG, "", "none", "least", (), (0,), (1,), (0, 1), (True,), ((),), [], [0],
            [[]], ("none", (0,)), ("least", (), 1, ())]


def spoiled(thing, spoilers=tuple(SPOILERS)):
    """All that comes of thing by one change: a thing within it is another one, lacks, stands twice, is a list."""
    yield from spoilers
    if type(thing) is tuple:
        yield list(thing)
        for k, part in enumerate(thing):
            yield thing[:k] + thing[k + 1:]
            yield thing[:k] + (part,) + thing[k:]
            for other in spoiled(part, spoilers):
                yield thing[:k] + (other,) + thing[k + 1:]


def some_row(source, web):
    return (source.choice(subsets(range(web[0]))), source.randint(1, 3))


def changed(source, web, paper):
    """The paper with something in it changed, perhaps to a right one."""
    if paper[0] == "none":
        return ("none", source.choice([paper[1], source.choice(subsets(range(web[0])))]))
    word, join, bottom, rows = paper
    rows = list(rows)
    choice = source.randrange(8)
    if choice == 0:
        join = source.choice(subsets(range(len(web[1]))))
    elif choice == 1:
        bottom += source.choice((-2, -1, 1))
    elif choice == 2:
        rows.append(some_row(source, web))
    elif choice == 3 and rows:
        rows.pop(source.randrange(len(rows)))
    elif choice == 4 and rows:
        k = source.randrange(len(rows))
        rows[k] = (rows[k][0], rows[k][1] + source.choice((-1, 1)))
    elif choice == 5 and rows:
        k = source.randrange(len(rows))
        rows[k] = (own_turns(rows[k][0], (source.randrange(web[0]),)), rows[k][1])
    elif choice == 6 and rows:
        k = source.randrange(len(rows))
        rows[k] = (tuple(place for place in range(web[0]) if place not in rows[k][0]), rows[k][1])
    else:
        rows = list(itertools.chain.from_iterable((row, row) for row in rows))
        bottom *= 2
    return (word, join, bottom, tuple(rows))
