import unittest

from oddjoins import errors
from oddjoins.errors import JoinError, NoLine, NoPaper, NoText, NoTie, NoTurns, NoWalk, TooMany

from tests.samples import ODD_THINGS

FIELDS = {
    NoPaper: ("word", "number"),
    NoWalk: ("number",),
    NoText: ("row", "word"),
    NoTurns: ("place",),
    NoTie: ("number",),
    TooMany: ("word",),
    NoLine: ("line",),
}


class Errors(unittest.TestCase):

    def test_base_stands_under_value_error(self):
        self.assertEqual(JoinError.__bases__, (ValueError,))

    def test_each_stands_straight_under_the_base_and_under_no_other(self):
        for one in FIELDS:
            self.assertEqual(one.__bases__, (JoinError,))
            for other in FIELDS:
                self.assertEqual(issubclass(one, other), one is other)

    def test_there_are_no_others(self):
        kinds = [thing for thing in vars(errors).values() if isinstance(thing, type)]
        self.assertEqual(set(kinds), set(FIELDS) | {JoinError})

    def test_fields_are_kept_in_their_order_as_the_very_things(self):
        for kind, names in FIELDS.items():
            for thing in ODD_THINGS + [[1, [2]]]:
                made_of = [thing] + [[name] for name in names[1:]]
                error = kind(*made_of)
                for name, field in zip(names, made_of):
                    self.assertIs(getattr(error, name), field)
                self.assertEqual(set(vars(error)), set(names))

    def test_fields_are_told_apart_by_their_place(self):
        self.assertEqual((NoPaper("a", 1).word, NoPaper("a", 1).number), ("a", 1))
        self.assertEqual((NoText(3, 4).row, NoText(3, 4).word), (3, 4))

    def test_made_of_just_these_fields(self):
        for kind, names in FIELDS.items():
            for count in range(4):
                if count != len(names):
                    with self.assertRaises(TypeError):
                        kind(*range(count))

    def test_each_is_raised_and_taken_as_any_refusal(self):
        for kind, names in FIELDS.items():
            for base in (kind, JoinError, ValueError):
                with self.assertRaises(base):
                    raise kind(*names)
            str(kind(*names))
            repr(kind(*names))
