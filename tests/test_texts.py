"""Point 9: webs written as texts, and just what is written so read again."""

import re
import unittest

import reckoning
from closering.errors import BadText, WebError
from closering.texts import read, written
from closering.webs import Web

MOST = 1000000

# The form of a number that is written, told a second time; the bounds are looked at below.
NUMBER = r"(0|-?[1-9][0-9]*)"
FORM = re.compile(rf"{NUMBER}/{NUMBER}( {NUMBER}>{NUMBER}:{NUMBER})*", re.ASCII)

SIGNS = [chr(code) for code in range(32, 127)] + ["\n", "\t", "\r", "\0"]


def told(text):
    """The web that the text tells, as a triple, or None: a second reckoning of what is read."""
    if not FORM.fullmatch(text):
        return None
    numbers = [int(figures) for figures in re.findall(r"-?[0-9]+", text)]
    points, turn = numbers[:2]
    ties = list(zip(numbers[2::3], numbers[3::3], numbers[4::3]))
    fits = all(0 <= first < points and 0 <= second < points and first != second and abs(number) <= MOST
               for first, second, number in ties)
    return (points, ties, turn) if 1 <= points <= MOST and 0 <= turn <= MOST and fits else None


class Reading(unittest.TestCase):
    def reads(self, text):
        """Holds what is read against the reckoning above; tells whether anything was."""
        expected = told(text)
        if expected is None:
            self.refuses(text)
            return False
        web = read(text)
        self.assertIs(type(web), Web)
        self.assertEqual((web.points, web.ties(), web.turn), expected)
        self.assertEqual(written(web), text)
        return True

    def refuses(self, text):
        with self.assertRaises(BadText, msg=text[:200] if isinstance(text, str) else None) as caught:
            read(text)
        self.assertIs(type(caught.exception), BadText)


class WrittenSignBySign(unittest.TestCase):
    def test_texts(self):
        for web, text in (((1, [], 0), "1/0"), ((3, [], 12), "3/12"), ((MOST, [], MOST), "1000000/1000000"),
                          ((2, [(0, 1, 5)], 0), "2/0 0>1:5"), ((2, [(1, 0, -5)], 7), "2/7 1>0:-5"),
                          ((3, [(0, 1, 0), (2, 0, 10), (0, 1, -10)], 2), "3/2 0>1:0 2>0:10 0>1:-10"),
                          ((11, [(10, 9, MOST), (0, 10, -MOST)], 1), "11/1 10>9:1000000 0>10:-1000000"),
                          ((MOST, [(0, MOST - 1, 1)], 0), "1000000/0 0>999999:1")):
            self.assertEqual(written(Web(*web)), text)
            self.assertIs(type(written(Web(*web))), str)

    def test_the_web_stays(self):
        web = Web(3, [(0, 1, 0), (2, 0, 10)], 2)
        written(web)
        self.assertEqual((web.points, web.ties(), web.turn), (3, [(0, 1, 0), (2, 0, 10)], 2))


class ReadAgain(Reading):
    def test_what_was_written(self):
        for web in reckoning.small_webs():
            made = read(written(Web(*web)))
            self.assertIs(type(made), Web)
            self.assertEqual((made.points, made.ties(), made.turn), web)

    def test_the_bounds(self):
        for text in ("1/0", "1000000/0", "1/1000000", "2/0 0>1:1000000", "2/0 0>1:-1000000", "1000000/0 999999>0:0"):
            self.assertTrue(self.reads(text), text)
        for text in ("0/0", "-1/0", "1000001/0", "1/1000001", "1/-1", "2/0 0>1:1000001", "2/0 0>1:-1000001", "2/0 0>2:1",
                     "2/0 2>0:1", "2/0 -1>0:1", "2/0 0>-1:1", "2/0 0>0:1", "2/0 1>1:0", "1/0 0>0:0", "1/0 0>1:0",
                     "1000000/0 1000000>0:0", "9999999/0", "10000000/0", "99999999/0"):
            self.assertFalse(self.reads(text), text)

    def test_needless_noughts(self):
        for text in ("01/0", "1/00", "1/-0", "-1/0", "1/01", "2/0 00>1:5", "2/0 0>01:5", "2/0 0>1:05", "2/0 0>1:-05",
                     "2/0 0>1:-0", "2/0 0>1:00", "2/0 -0>1:5", "2/00 0>1:5", "0002/0 0>1:5", "2/0 1>-0:5",
                     "2/0 0>1:00000005", "2/0 0>1:0000000", "2/0 0>1:-0000001"):
            self.refuses(text)

    def test_blanks(self):
        for text in (" 2/0 0>1:5", "2/0 0>1:5 ", "2/0  0>1:5", "2/0 0>1:5  0>1:6", "2 /0 0>1:5", "2/ 0 0>1:5", "2/0 0 >1:5",
                     "2/0 0> 1:5", "2/0 0>1 :5", "2/0 0>1: 5", "2/0 ", " 2/0", "2/0 0>1:- 5", " ", "  ", "2/0 0>1:5 \n"):
            self.refuses(text)

    def test_signs_missing_or_needless(self):
        for text in ("", "/", "2", "2/", "/0", "20", "2/0/", "2//0", "/2/0", "2/0/0", "2/0 0>1", "2/0 01:5", "2/0 0:1>5",
                     "2/0 0>1:", "2/0 0>:5", "2/0 >1:5", "2/0 0>>1:5", "2/0 0>1::5", "2/0 0>1>5", "2/0 0:1:5", "2/0 :",
                     "2/0 >", "2/0 >:", "2/0 0>1:5:", "2/0 0>1:5>", "2/0>0>1:5", "2/0:0>1:5", "2/0,0>1:5", "2/00>1:5",
                     "2/0 0>1:50>1:6", "2/0 0/1:5", "2/0 0>1/5", "2>0 0>1:5", "2:0", "0>1:5", " 0>1:5", "0>1:5 2/0",
                     "2/0 2/0", "2/0 0>1:--5", "2/0 0>1:5-", "2/0 0>1:-", "-2/0", "-/0", "2/-"):
            self.refuses(text)

    def test_other_signs(self):
        for text in ("+2/0", "2/+0", "2/0 0>1:+5", "2/0 +0>1:5", "2/0 0>+1:5", "2/0\n0>1:5", "2/0 0>1:5\n", "\n2/0", "2/0\n",
                     "2/0\t0>1:5", "2/0 0>1:5\r", "2/0 0>1:5\r\n", "2\n/0", "2/0 0>1:\n5", "2/0 0>1:5\0", "1_0/0", "1/1_0",
                     "2/0 0>1:1_0", "2/0 0>1:5.0", "2/0 0>1:1e3", "2/0 0>1:0x5", "a", "2/0 a", "two/0", "2/0 0>1:five",
                     "(2, [], 0)", "2/0 0>1:5;"):
            self.refuses(text)

    def test_figures_by_the_thousand(self):
        for count in (9, 100, 4299, 4300, 4301, 5000, 100000):
            for figures in ("1" * count, "0" * count, "-" + "9" * count, "0" * count + "1", "-" * count, " " * count,
                            "_" * count, "1_" * count + "1"):
                for text in (figures, f"{figures}/0", f"1/{figures}", f"2/0 {figures}>1:5", f"2/0 0>{figures}:5",
                             f"2/0 0>1:{figures}"):
                    self.refuses(text)

    def test_texts_one_sign_away_from_a_written_one(self):
        shown = []
        for text in ("1/0", "2/0 0>1:5", "12/10 11>0:-10 1>10:0", "1000000/1000000 0>999999:-1000000"):
            for place in range(len(text) + 1):
                shown.append(self.reads(text[:place] + text[place + 1:]))
                for sign in SIGNS:
                    shown.append(self.reads(text[:place] + sign + text[place:]))
                    shown.append(self.reads(text[:place] + sign + text[place + 1:]))
                shown.append(self.reads(text[:place]))
                shown.append(self.reads(text[place:]))
        self.assertGreater(shown.count(True), 100)
        self.assertGreater(shown.count(False), 1000)

    def test_all_short_texts(self):
        texts = [""]
        for count in range(6):
            texts = [text + sign for text in texts for sign in "012/-"]
            for text in texts:
                self.reads(text)

    def test_short_ties(self):
        texts = ["2/0 "]
        for count in range(6):
            texts = [text + sign for text in texts for sign in "01>:-"]
            for text in texts:
                self.reads(text)

    def test_what_is_no_text(self):
        for value in (None, True, False, 0, 1, 2.0, b"2/0", bytearray(b"2/0"), [], ["2/0"], list("2/0"), (), ("2/0",), {},
                      {"2/0": 1}, set(), object(), str, Web(2, [], 0), 10 ** 5000):
            self.refuses(value)

    def test_the_refusal_is_a_web_error_and_a_value_error(self):
        for value in (None, "", "0/0", "2/0 0>1:05"):
            self.assertRaises(WebError, read, value)
            self.assertRaises(ValueError, read, value)

    def test_each_time_a_new_web(self):
        self.assertIsNot(read("2/0 0>1:5"), read("2/0 0>1:5"))


if __name__ == "__main__":
    unittest.main()
