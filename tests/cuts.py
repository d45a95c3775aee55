"""What is due of cuts and halves, as the document tells it, without the program."""

from tests.samples import is_number, own_cut, own_is_rising, own_odds, own_price, subsets
from tests.verdicts import own_is_above, own_is_round, own_is_tuple


def own_weight(web, side):
    return own_price(web, own_cut(web, side))


def own_all(web):
    return sum(tie[2] for tie in web[1])


def most_weight(web):
    return max(own_weight(web, side) for side in subsets(range(web[0])))


def cut_verdict(web, thing):
    """The fields of the refusal that is due, None where thing is a paper."""
    if not (own_is_tuple(thing, 4) and thing[0] == "cut" and own_is_rising(thing[1], web[0])
            and own_is_above(thing[2]) and type(thing[3]) is tuple and len(thing[3]) <= 400):
        return ("shape", 0)
    for row in thing[3]:
        if not (own_is_tuple(row, 2) and own_is_rising(row[0], len(web[1])) and own_is_above(row[1])):
            return ("shape", 0)
    side, bottom, rows = thing[1:]
    for k, (some, _) in enumerate(rows):
        if own_odds(web, some) or len(some) % 2 == 0:
            return ("row", k)
    for t, tie in enumerate(web[1]):
        if sum(share for some, share in rows if t in some) > bottom * tie[2]:
            return ("tie", t)
    lacking = bottom * (own_all(web) - own_weight(web, side))
    return None if sum(share for _, share in rows) == lacking else ("sum", 0)


def halves_verdict(web, thing):
    """Whether thing shows halves, or that there are none."""
    if own_is_tuple(thing, 2) and thing[0] == "halves" and own_is_rising(thing[1], web[0]):
        return own_weight(web, thing[1]) == sum(tie[2] for tie in web[1] if tie[2] > 0)
    if own_is_tuple(thing, 3) and thing[0] == "odd" and is_number(thing[1]) and own_is_round(web, thing[1:]):
        return len(thing[2]) % 2 == 1 and all(web[1][number][2] > 0 for number in thing[2])
    return False
