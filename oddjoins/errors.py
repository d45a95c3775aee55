"""The refusals. Each keeps the very things that it is made of and looks at none of them."""


class JoinError(ValueError):
    """Any refusal of the program."""


class NoPaper(JoinError):
    """A thing is not the paper that it is asked to be."""

    def __init__(self, word, number):
        self.word = word
        self.number = number


class NoWalk(JoinError):
    """A row can't be gone."""

    def __init__(self, number):
        self.number = number


class NoText(JoinError):
    """Lines don't write a web."""

    def __init__(self, row, word):
        self.row = row
        self.word = word


class NoTurns(JoinError):
    """A thing is not the turns of a web."""

    def __init__(self, place):
        self.place = place


class NoTie(JoinError):
    """A number is not one of those that there are."""

    def __init__(self, number):
        self.number = number


class TooMany(JoinError):
    """There would be more than are told."""

    def __init__(self, word):
        self.word = word


class NoLine(JoinError):
    """A row is none that a desk knows."""

    def __init__(self, line):
        self.line = line
