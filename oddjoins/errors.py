"""The refusals. Each keeps the very things that it is made of and looks at none of them."""


# Any refusal of the program.
class JoinError(ValueError):
    pass


# A thing is not the paper that it is asked to be.
class NoPaper(JoinError):
    def __init__(self, word, number):
        self.word = word
        self.number = number


# A row can't be gone.
class NoWalk(JoinError):
    def __init__(self, number):
        self.number = number


# Lines don't write a web.
class NoText(JoinError):
    def __init__(self, row, word):
        self.row = row
        self.word = word


# A thing is not the turns of a web.
class NoTurns(JoinError):
    def __init__(self, place):
        self.place = place


# A number is not one of those that there are.
class NoTie(JoinError):
    def __init__(self, number):
        self.number = number


# There would be more than are told.
class TooMany(JoinError):
    def __init__(self, word):
        self.word = word


# A row is none that a desk knows.
class NoLine(JoinError):
    def __init__(self, line):
        self.line = line


# Refuses a paper by the first of numbers, where there are some.
def refuse_some(word, numbers):
    if len(numbers) > 0:
        raise NoPaper(word, numbers[0])
