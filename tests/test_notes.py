"""Points 1 and 11 of the document, for sameapart.notes."""

import itertools
import unittest

from sameapart.errors import NoNote, NoRow
from sameapart.notes import read, shown
from sameapart.rows import contrary, row_of, rows
from samples import KNOWN_ROWS, NO_ROWS, SIZE_4, assert_refused, skolem

ROWS = [list(row) for row in KNOWN_ROWS]
ROWS += [row for size in (1, 4, 5) for row in rows(size)]
ROWS += [row_of(size) for size in range(1, 401) if size % 4 <= 1]
ROWS += [contrary(row_of(400)), skolem(9), skolem(12), skolem(397), skolem(400)]

SIGNS = [sign for sign in map(chr, range(32, 127)) if sign != "%"] + ["\t", "\n"]

TEXT_4 = "1 1 3 4 2 3 2 4"
TEXT_12 = " ".join(map(str, skolem(12)))
TEXT_400 = " ".join(map(str, skolem(400)))

NO_NOTES = {
    "no text": "",
    "a blank": " ",
    "two blanks": "  ",
    "a line end": "\n",
    "a tab": "\t",
    "a blank ahead": " 1 1",
    "a blank behind": "1 1 ",
    "blanks about": " 1 1 ",
    "two blanks between": "1  1",
    "two blanks in the midst": "1 1 3 4  2 3 2 4",
    "blanks for two numbers": "1 1  3 4 2 3 2 4",
    "a line end behind": "1 1\n",
    "a line end ahead": "\n1 1",
    "a line end between": "1\n1",
    "a line end and a blank between": "1\n 1",
    "a tab behind": "1 1\t",
    "a tab ahead": "\t1 1",
    "a tab between": "1\t1",
    "a tab and a blank between": "1 \t1",
    "plus": "+1 +1",
    "one plus": "+1 1",
    "minus": "-1 -1",
    "one minus": "1 -1",
    "a sign alone": "1 1 - -",
    "a low line in a number": TEXT_12.replace("12", "1_2"),
    "a low line behind": "1_ 1",
    "a low line ahead": "_1 1",
    "a low line between": "1_1",
    "a point behind": "1. 1.",
    "a point and a nought": "1.0 1.0",
    "a point between": "1.1",
    "a comma": "1,1",
    "a comma and a blank": "1, 1",
    "brackets": "[1, 1]",
    "letters": "a a",
    "a letter behind": "1 1a",
    "a letter between": "1 a 1",
    "one as a power": "1e0 1e0",
    "another base": "0x1 0x1",
    "words": "one one",
    "a nought ahead": "01 1",
    "noughts ahead": "01 01",
    "many noughts ahead": "1 0001",
    "a nought ahead in a longer row": "1 1 3 4 2 3 2 04",
    "a nought": "0",
    "two noughts": "0 0",
    "00": "00 00",
    "no blank": "11",
    "one number": "1",
    "numbers too near": "1 1 2 2",
    "numbers too far apart": "1 2 2 1",
    "above the size": "2 2",
    "three": "1 1 1",
    "one too few": TEXT_4[:-2],
    "one too many": TEXT_4 + " 5",
    "a nought behind": TEXT_4 + " 0",
    "a size that can't be": "1 1 2 3 2 3",
    "twice": TEXT_4 + " " + TEXT_4,
    "two rows in two lines": "1 1\n1 1",
    "size 401": " ".join(map(str, skolem(401))),
    "size 405": " ".join(map(str, skolem(405))),
    "the greatest row and a blank": TEXT_400 + " ",
    "the greatest row and a line end": TEXT_400 + "\n",
    "the greatest row but its last figure": TEXT_400[:-1],
    "the greatest row but its first figure": TEXT_400[1:],
    "4000 blanks": " " * 4000,
    "4000 line ends": "\n" * 4000,
    "4000 ones": "1" * 4000,
    "4000 noughts": "0" * 4000,
    "4000 letters": "a" * 4000,
    "4000 signs of ones and blanks": "1 " * 2000,
    "3999 signs of ones and blanks": "1 " * 1999 + "1",
    "thirty figures": "9" * 30 + " " + "9" * 30,
    "two long numbers": "1" * 1999 + " " + "1" * 1999,
    "a one ahead of many figures": "1 1" + "0" * 3997,
    "a one behind many noughts": "0" * 3997 + "1 1",
    "somewhat more than 4000 ones": "1" * 5000,
    "somewhat more than 4000 ones for the last number": "1 " + "1" * 4500,
}


class ShownTest(unittest.TestCase):
    def test_known(self):
        self.assertEqual(shown([1, 1]), "1 1")
        self.assertEqual(shown(SIZE_4), TEXT_4)
        self.assertEqual(shown(row=SIZE_4), TEXT_4)
        self.assertEqual(shown(skolem(12)), TEXT_12)

    def test_every_row_sign_by_sign(self):
        for row in ROWS:
            text = shown(row)
            self.assertIs(type(text), str)
            self.assertRegex(text, r"\A[1-9][0-9]*( [1-9][0-9]*)*\Z")
            self.assertEqual([int(part) for part in text.split()], row)

    def test_no_rows(self):
        for name, row in NO_ROWS.items():
            with self.subTest(name):
                assert_refused(self, NoRow, shown, row)


class ReadTest(unittest.TestCase):
    def test_known(self):
        self.assertEqual(read("1 1"), [1, 1])
        self.assertEqual(read(TEXT_4), SIZE_4)
        self.assertEqual(read(text=TEXT_4), SIZE_4)
        self.assertEqual(read(TEXT_12), skolem(12))
        self.assertEqual(read(TEXT_400), skolem(400))

    def test_what_is_shown_is_read_to_the_same_row(self):
        for row in ROWS:
            told = read(shown(row))
            self.assertIs(type(told), list)
            self.assertEqual({type(number) for number in told}, {int})
            self.assertEqual(told, row)

    def test_no_notes(self):
        for name, text in NO_NOTES.items():
            with self.subTest(name):
                assert_refused(self, NoNote, read, text)

    def test_numbers_that_are_no_row(self):
        for name, row in NO_ROWS.items():
            with self.subTest(name):
                assert_refused(self, NoNote, read, " ".join(map(str, row)))

    def test_all_short_texts(self):
        for length in range(6):
            for signs in itertools.product("01 2-\n", repeat=length):
                text = "".join(signs)
                if text == "1 1":
                    self.assertEqual(read(text), [1, 1])
                else:
                    assert_refused(self, NoNote, read, text)

    def test_a_sign_more(self):
        for place, sign in itertools.product(range(len(TEXT_4) + 1), SIGNS):
            with self.subTest(place=place, sign=sign):
                assert_refused(self, NoNote, read, TEXT_4[:place] + sign + TEXT_4[place:])

    def test_a_sign_less(self):
        for text in (TEXT_4, TEXT_12):
            for place in range(len(text)):
                with self.subTest(text=text, place=place):
                    assert_refused(self, NoNote, read, text[:place] + text[place + 1:])

    def test_another_sign(self):
        for text in (TEXT_4, TEXT_12):
            for place, sign in itertools.product(range(len(text)), SIGNS):
                if text[place] != sign:
                    with self.subTest(text=text, place=place, sign=sign):
                        assert_refused(self, NoNote, read, text[:place] + sign + text[place + 1:])


class OwnTest(unittest.TestCase):
    """Point 1: nothing handed in is changed, and what is told is the asker's own."""

    def test_nothing_handed_in_is_changed(self):
        for row in ROWS:
            given = list(row)
            shown(given)
            self.assertEqual(given, row)
        for row in NO_ROWS.values():
            given = list(row)
            assert_refused(self, NoRow, shown, given)
            self.assertEqual(given, row)

    def test_a_row_that_was_changed_is_looked_at_anew(self):
        given = [1, 1]
        self.assertEqual(shown(given), "1 1")
        given[:] = SIZE_4
        self.assertEqual(shown(given), TEXT_4)
        given.pop()
        assert_refused(self, NoRow, shown, given)

    def test_told_rows_may_be_changed(self):
        for text in ("1 1", TEXT_4, TEXT_12, TEXT_400):
            told = read(text)
            before = list(told)
            told.reverse()
            told.append(0)
            again = read(text)
            self.assertIsNot(again, told)
            self.assertEqual(again, before)
            self.assertEqual(shown(again), text)


if __name__ == "__main__":
    unittest.main()
