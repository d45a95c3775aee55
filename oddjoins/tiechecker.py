"""The checker of tie papers: whether all, some or none of the least joins have a tie. It seeks nothing."""

from oddjoins.errors import NoPaper
from oddjoins.forcedchecker import lets_forced
from oddjoins.kinds import is_tuple_of
from oddjoins.webs import price_of

TIE_WORDS = ("none", "always", "never", "sometimes")


def lets_tie(web, told, number, thing):
    if not is_tuple_of(thing, 3) or thing[0] not in TIE_WORDS:
        raise NoPaper("shape", 0)
    lets_forced(web, told, (number,), (), thing[1])
    lets_forced(web, told, (), (number,), thing[2])
    if thing[0] != tie_word(web, thing[1], thing[2]):
        raise NoPaper("word", 0)
    return True


# The word that is due of two forced papers, the one with the tie, the other without it.
def tie_word(web, one, other):
    if one[0] == "none":
        return "none" if other[0] == "none" else "never"
    dearer = extra_price(web, one, other)
    if dearer == 0:
        return "sometimes"
    return "always" if dearer is None or dearer > 0 else "never"


# By how much the join of other is dearer than that of one, None where one of both papers has none.
def extra_price(web, one, other):
    if one[0] == "none" or other[0] == "none":
        return None
    return price_of(web, other[1]) - price_of(web, one[1])
