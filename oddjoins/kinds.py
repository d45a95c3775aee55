"""What all modules ask of plain things: their kinds, and which numbers stand in a row an odd number of times."""


def is_whole(thing):
    # Python counts True and False among the ints; here they are no numbers.
    return isinstance(thing, int) and not isinstance(thing, bool)


def is_whole_from(thing, least):
    return is_whole(thing) and thing >= least


def is_tuple_of(thing, count):
    return isinstance(thing, tuple) and len(thing) == count


# Whether thing is a tuple of whole numbers from 0 on, each above the one ahead of it.
def is_rising(thing):
    if not isinstance(thing, tuple):
        return False
    ahead = -1
    for number in thing:
        if not is_whole(number) or number <= ahead:
            return False
        ahead = number
    return True


def is_rising_below(thing, bound):
    return is_rising(thing) and (len(thing) == 0 or thing[-1] < bound)


# Whether no two of numbers are alike.
def are_unlike(numbers):
    return len(set(numbers)) == len(numbers)


# The numbers that stand in row an odd number of times, rising.
def odd_ones(row):
    odd = {}
    for number in row:
        odd[number] = not odd.get(number, False)
    return tuple(sorted([number for number in odd if odd[number]]))
