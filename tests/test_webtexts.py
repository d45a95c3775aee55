import itertools
import unittest

from oddjoins.errors import NoText
from oddjoins.webs import is_web
from oddjoins.webtexts import numbers_text, read_numbers, read_web, web_lines

from tests.samples import BIG, SMALL_WEBS, some_webs, subsets

SIGNS = [chr(code) for code in range(32, 127) if chr(code) != "%"]


class Numbers(unittest.TestCase):

    def test_texts(self):
        self.assertEqual(numbers_text(()), "-")
        self.assertEqual(numbers_text((0,)), "0")
        self.assertEqual(numbers_text((0, 7, 10)), "0,7,10")
        self.assertEqual(numbers_text((BIG,)), "9" * 40)

    def test_to_and_fro(self):
        for some in subsets((0, 1, 9, 10, 99, 100, BIG)) + [tuple(range(500))]:
            self.assertEqual(read_numbers(numbers_text(some)), some)
            self.assertIs(type(read_numbers(numbers_text(some))), tuple)
            self.assertIs(type(numbers_text(some)), str)

    def test_read(self):
        self.assertEqual(read_numbers("-"), ())
        self.assertEqual(read_numbers("0"), (0,))
        self.assertEqual(read_numbers("3,12"), (3, 12))
        self.assertEqual(read_numbers("1" + "0" * 39), (10 ** 39,))
        self.assertEqual(read_numbers("0," + "9" * 40), (0, BIG))

    def test_other_texts(self):
        for text in ("", " ", ",", "--", "-0", "-1", "+1", "00", "01", "1,02", "0,", ",0", "1,,2", "1, 2", " 1", "1 ",
                     "1;2", "2,1", "1,1", "0,0", "1,2,2", "1,3,2", "-,1", "1,-", "-1,2", "1,-2", "1.5", "1.0", "1e3",
                     "1_0", "0x1", "a", "(1,2)", "()", "None", "True", "1" + "0" * 40, "0,1" + "0" * 40, "9" * 41,
                     "0" * 41, "9" * 5000, "," * 5000, "-" * 5000, "- ", " -"):
            self.assertIsNone(read_numbers(text), text)

    def test_all_short_texts(self):
        written = {numbers_text(some): some for some in [()] + [(a,) for a in range(1000)]
                   + [(a, b) for a in range(10) for b in range(a + 1, 10)]}
        for count in range(4):
            for signs in itertools.product(" 0129,-+a.", repeat=count):
                text = "".join(signs)
                self.assertEqual(read_numbers(text), written.get(text), text)
        for sign in SIGNS:
            self.assertEqual(read_numbers(sign), written.get(sign))
            self.assertIsNone(read_numbers("1" + sign + "3") if sign not in "0123456789," else None)


class Webs(unittest.TestCase):

    def refused(self, lines):
        ahead = list(lines)
        with self.assertRaises(NoText) as caught:
            read_web(lines)
        self.assertEqual(lines, ahead)
        return (caught.exception.row, caught.exception.word)

    def test_lines(self):
        self.assertEqual(web_lines((1, ())), ["web 1"])
        self.assertEqual(web_lines((12, ((0, 11, -5), (3, 4, 0), (3, 4, 0)))),
                         ["web 12", "tie 0 11 -5", "tie 3 4 0", "tie 3 4 0"])

    def test_to_and_fro(self):
        full = (60, ((0, 59, BIG), (58, 59, -BIG)) * 100)
        for web in SMALL_WEBS + some_webs(5, 30) + [full]:
            lines = web_lines(web)
            self.assertIs(type(lines), list)
            self.assertEqual(read_web(lines), web)
            self.assertTrue(is_web(read_web(lines)))
            self.assertEqual(web_lines(read_web(lines)), lines)

    def test_told_lines_are_the_askers_own(self):
        web = SMALL_WEBS[6]
        lines = web_lines(web)
        kept = list(lines)
        lines[0] = "web 60"
        lines.append("tie")
        self.assertEqual(web_lines(web), kept)
        lines = list(kept)
        told = read_web(lines)
        lines.clear()
        self.assertEqual(told, web)

    def test_no_lines(self):
        self.assertEqual(self.refused([]), (0, 0))

    def test_first_line(self):
        for text, word in (("", 0), (" ", 0), (" web 3", 0), ("Web 3", 0), ("webs 3", 0), ("tie 0 1 2", 0), ("3", 0),
                           ("web", 1), ("web ", 1), ("web  3", 1), ("web x", 1), ("web 0", 1), ("web 61", 1),
                           ("web -1", 1), ("web 03", 1), ("web +3", 1), ("web 3.0", 1), ("web -0", 1), ("web -3", 1),
                           ("web 1" + "0" * 40, 1), ("web 3 ", 2), ("web 3 4", 2), ("web 3  ", 2), ("web 3 web 3", 2),
                           ("web x y", 1), ("web 0 4", 1), ("wab x y", 0), ("web,3", 0)):
            self.assertEqual(self.refused([text]), (0, word), text)
            self.assertEqual(self.refused([text, "tie x"]), (0, word), text)
        for many in (1, 9, 10, 59, 60):
            self.assertEqual(read_web([f"web {many}"]), (many, ()))

    def test_other_lines(self):
        for text, word in (("", 0), (" ", 0), ("ties 0 1 2", 0), ("web 4", 0), (" tie 0 1 2", 0), ("Tie 0 1 2", 0),
                           ("tie", 1), ("tie ", 1), ("tie  0 1 2", 1), ("tie x 1 2", 1), ("tie -1 1 2", 1),
                           ("tie 00 1 2", 1), ("tie 3 3 2", 1), ("tie 3 4 2", 1), ("tie 4 5 2", 1), ("tie 3", 1),
                           ("tie -0 1 2", 1), ("tie +0 1 2", 1), ("tie 1" + "0" * 40, 1),
                           ("tie 0", 2), ("tie 0 ", 2), ("tie 0  1 2", 2), ("tie 0 x 2", 2), ("tie 0 0 2", 2),
                           ("tie 2 1 2", 2), ("tie 2 2 2", 2), ("tie 0 4 2", 2), ("tie 0 -1 2", 2), ("tie 0 01 2", 2),
                           ("tie 0 1" + "0" * 40, 2), ("tie 2 4", 2),
                           ("tie 0 1", 3), ("tie 0 1 ", 3), ("tie 0 1  2", 3), ("tie 0 1 x", 3), ("tie 0 1 -", 3),
                           ("tie 0 1 -0", 3), ("tie 0 1 02", 3), ("tie 0 1 -02", 3), ("tie 0 1 +2", 3),
                           ("tie 0 1 --2", 3), ("tie 0 1 2-", 3), ("tie 0 1 " + "9" * 41, 3),
                           ("tie 0 1 -" + "9" * 41, 3), ("tie 0 1 1" + "0" * 40, 3), ("tie 0 1 1.5", 3),
                           ("tie 0 1 1_0", 3), ("tie 0 1 x y", 3),
                           ("tie 0 1 2 ", 4), ("tie 0 1 2 3", 4), ("tie 0 1 2 3 4", 4), ("tie 0 1 2  ", 4)):
            self.assertEqual(self.refused(["web 4", text]), (1, word), text)
            self.assertEqual(self.refused(["web 4", "tie 0 1 2", "tie 2 3 -7", text, "", "tie"]), (3, word), text)

    def test_places_at_the_edge(self):
        self.assertEqual(read_web(["web 4", "tie 2 3 0"]), (4, ((2, 3, 0),)))
        self.assertEqual(self.refused(["web 1", "tie 0 1 2"]), (1, 1))
        self.assertEqual(self.refused(["web 1", "tie"]), (1, 1))
        self.assertEqual(self.refused(["web 1", ""]), (1, 0))
        self.assertEqual(self.refused(["web 2", "tie 1 1 2"]), (1, 1))
        self.assertEqual(self.refused(["web 60", "tie 58 59 2", "tie 59 60 2"]), (2, 1))

    def test_prices(self):
        for price in (0, 1, -1, 99, -99, BIG, -BIG, 10 ** 39):
            self.assertEqual(read_web(["web 2", f"tie 0 1 {price}"]), (2, ((0, 1, price),)))

    def test_two_hundred_ties_and_more(self):
        lines = ["web 2"] + ["tie 0 1 2"] * 200
        self.assertEqual(len(read_web(lines)[1]), 200)
        for more in ("tie 0 1 2", "", "tie", "tie 0 1 x", "x"):
            self.assertEqual(self.refused(lines + [more]), (201, 0))
            self.assertEqual(self.refused(lines + [more, more]), (201, 0))
        self.assertEqual(self.refused(lines[:200] + ["tie 0 1 x", "tie 0 1 2"]), (200, 3))
        self.assertEqual(self.refused(["web 2 2"] + lines[1:] + ["x"]), (0, 2))
