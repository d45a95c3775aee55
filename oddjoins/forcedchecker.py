"""The checker of forced papers: least joins with ties that they must have, without such as they mustn't."""

from oddjoins.errors import NoPaper, refuse_some
from oddjoins.joinchecker import lets_join
from oddjoins.kinds import is_tuple_of
from oddjoins.rests import forced_rest
from oddjoins.webs import is_set


def lets_forced(web, told, ins, outs, thing):
    left = forced_rest(web, told, ins, outs)
    if is_tuple_of(thing, 2) and thing[0] == "none":
        return lets_join(left[0], left[2], thing)
    if is_tuple_of(thing, 4) and thing[0] == "least" and is_set(web, thing[1]):
        refuse_unforced(ins, outs, thing[1])
        return lets_join(left[0], left[2], ("least", numbered_within(left[1], thing[1]), thing[2], thing[3]))
    raise NoPaper("shape", 0)


def is_forced_paper(web, told, ins, outs, thing):
    try:
        return lets_forced(web, told, ins, outs, thing)
    except NoPaper:
        return False


def refuse_unforced(ins, outs, join):
    refuse_some("ins", [number for number in ins if number not in join])
    refuse_some("outs", [number for number in outs if number in join])


# The ties of join that are among numbers, by where they stand there.
def numbered_within(numbers, join):
    return tuple([index for index, number in enumerate(numbers) if number in join])
