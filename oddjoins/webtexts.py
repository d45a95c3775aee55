"""Numbers and webs as texts, to and fro."""

from oddjoins.errors import NoText
from oddjoins.kinds import is_rising
from oddjoins.webs import MOST_PLACES, MOST_TIES

FIGURES = "0123456789"
MOST_FIGURES = 40


def numbers_text(some):
    if len(some) == 0:
        return "-"
    return ",".join([str(number) for number in some])


def read_numbers(text):
    if text == "-":
        return ()
    numbers = tuple([read_whole(word) for word in text.split(",")])
    return numbers if is_rising(numbers) else None


# The whole number that word writes, None where it writes none.
def read_whole(word):
    figures = word[1:] if word.startswith("-") else word
    if figures == "" or len(figures) > MOST_FIGURES or not all([sign in FIGURES for sign in figures]):
        return None
    # No 0 stands ahead, and there is no 0 below 0.
    if figures[0] == "0" and word != "0":
        return None
    return int(word)


def web_lines(web):
    many = web[0]
    return [f"web {many}"] + [f"tie {low} {high} {price}" for low, high, price in web[1]]


def read_web(lines):
    if len(lines) == 0:
        raise NoText(0, 0)
    many = read_many(lines[0])
    ties = []
    for row in range(1, len(lines)):
        if row > MOST_TIES:
            raise NoText(row, 0)
        ties.append(read_tie(row, lines[row], many))
    return (many, tuple(ties))


def read_many(line):
    words = line.split(" ")
    refuse_unless(words[0] == "web", 0, 0)
    many = bounded_word(0, words, 1, 1, MOST_PLACES)
    refuse_unless(len(words) == 2, 0, 2)
    return many


def read_tie(row, line, many):
    words = line.split(" ")
    refuse_unless(words[0] == "tie", row, 0)
    low = bounded_word(row, words, 1, 0, many - 2)
    high = bounded_word(row, words, 2, low + 1, many - 1)
    price = whole_word(row, words, 3)
    refuse_unless(len(words) == 4, row, 4)
    return (low, high, price)


# The whole number at index of words; a word that is lacking is refused like one that can't stand.
def whole_word(row, words, index):
    number = read_whole(words[index]) if index < len(words) else None
    refuse_unless(number is not None, row, index)
    return number


def bounded_word(row, words, index, least, most):
    number = whole_word(row, words, index)
    refuse_unless(number >= least and number <= most, row, index)
    return number


def refuse_unless(stands, row, index):
    if not stands:
        raise NoText(row, index)
