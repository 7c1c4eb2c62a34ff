"""Points 1 to 6 of the document, for sameapart.rows."""

import itertools
import unittest

from sameapart.errors import ApartError, NoRow, NoSize, NoSuch
from sameapart.rows import can_be, contrary, is_row, many, places, reckoned, row_of, rows
from samples import KNOWN_ROWS, NO_ROWS, SIZE_4, THIRTY_FIGURES
from samples import assert_refused, changed, skolem, stands_as_it_must, swapped

SIZES = range(1, 401)
POSSIBLE = [size for size in SIZES if size % 4 in (0, 1)]
IMPOSSIBLE = [size for size in SIZES if size % 4 in (2, 3)]
NO_SIZES = (0, -1, -2, -3, -4, -400, 401, 402, 404, 405, 800, 1000, THIRTY_FIGURES, -THIRTY_FIGURES)


def rows_by_first_places(size):
    """All rows of a size, by trying every first place of every number."""
    told = []
    for firsts in itertools.product(*[range(2 * size - number) for number in range(1, size + 1)]):
        row = [0] * (2 * size)
        for number, first in enumerate(firsts, start=1):
            row[first] = row[first + number] = number
        if stands_as_it_must(row):
            told.append(row)
    return sorted(told)


def count_by_bits(number, taken, length):
    """How many ways there are to lay the numbers from `number` down to one on places not taken."""
    if number == 0:
        return 1
    found = 0
    for first in range(length - number):
        pair = (1 << first) | (1 << (first + number))
        if not taken & pair:
            found += count_by_bits(number - 1, taken | pair, length)
    return found


class HelpersTest(unittest.TestCase):
    """The tests below lean on skolem: its rows are looked at, those above the greatest size as well."""

    def test_skolem(self):
        for size in (8, 9, 12, 13, 400, 401, 404, 405, 449):
            self.assertTrue(stands_as_it_must(skolem(size)), size)


class IsRowTest(unittest.TestCase):
    def test_rows(self):
        for row in KNOWN_ROWS:
            with self.subTest(row=row):
                self.assertIs(is_row(row), True)

    def test_great_rows(self):
        for size in (8, 9, 100, 101, 396, 397, 400):
            with self.subTest(size=size):
                self.assertIs(is_row(skolem(size)), True)
                self.assertIs(is_row(skolem(size)[::-1]), True)

    def test_no_rows(self):
        for name, row in NO_ROWS.items():
            with self.subTest(name):
                self.assertIs(is_row(row), False)

    def test_any_two_places_changed_about(self):
        for row in KNOWN_ROWS:
            for one, other in itertools.combinations(range(len(row)), 2):
                with self.subTest(row=row, one=one, other=other):
                    self.assertIs(is_row(swapped(row, one, other)), row[one] == row[other])

    def test_any_number_changed(self):
        for place, number in itertools.product(range(8), (-THIRTY_FIGURES, -1, 0, 1, 2, 3, 4, 5, 8, THIRTY_FIGURES)):
            with self.subTest(place=place, number=number):
                self.assertIs(is_row(changed(SIZE_4, place, number)), SIZE_4[place] == number)

    def test_all_short_lists(self):
        for length in range(6):
            for some in itertools.product(range(-1, 4), repeat=length):
                self.assertIs(is_row(list(some)), list(some) == [1, 1], some)

    def test_all_orders_of_size_4(self):
        orders = sorted(set(itertools.permutations([1, 1, 2, 2, 3, 3, 4, 4])))
        self.assertEqual(len(orders), 2520)
        for some in orders:
            self.assertIs(is_row(list(some)), stands_as_it_must(list(some)), some)

    def test_argument_name(self):
        self.assertIs(is_row(row=[1, 1]), True)


class ContraryTest(unittest.TestCase):
    def test_words_of_the_point(self):
        self.assertEqual(contrary([1, 1]), [1, 1])
        self.assertEqual(contrary(SIZE_4), [4, 2, 3, 2, 4, 3, 1, 1])
        self.assertEqual(contrary(row=SIZE_4), [4, 2, 3, 2, 4, 3, 1, 1])

    def test_contrary_is_a_row_and_its_contrary_the_row(self):
        for row in list(KNOWN_ROWS) + [row_of(size) for size in POSSIBLE]:
            other = contrary(row)
            self.assertIs(type(other), list)
            self.assertEqual(other, [row[len(row) - 1 - place] for place in range(len(row))])
            self.assertTrue(stands_as_it_must(other))
            self.assertIs(is_row(other), True)
            self.assertEqual(contrary(other), row)

    def test_no_rows(self):
        for name, row in NO_ROWS.items():
            with self.subTest(name):
                assert_refused(self, NoRow, contrary, row)


class PlacesTest(unittest.TestCase):
    def test_known(self):
        self.assertEqual(places([1, 1]), [(0, 1)])
        self.assertEqual(places(SIZE_4), [(0, 1), (4, 6), (2, 5), (3, 7)])
        self.assertEqual(places([4, 2, 3, 2, 4, 3, 1, 1]), [(6, 7), (1, 3), (2, 5), (0, 4)])
        self.assertEqual(places(row=[1, 1]), [(0, 1)])

    def test_every_number_has_its_two_places(self):
        for row in list(KNOWN_ROWS) + [row_of(size) for size in POSSIBLE]:
            told = places(row)
            self.assertIs(type(told), list)
            self.assertEqual(len(told), len(row) // 2)
            for number, pair in enumerate(told, start=1):
                self.assertIs(type(pair), tuple)
                first, second = pair
                self.assertEqual(second - first, number)
                self.assertEqual((row[first], row[second]), (number, number))
            self.assertEqual(sorted(place for pair in told for place in pair), list(range(len(row))))

    def test_no_rows(self):
        for name, row in NO_ROWS.items():
            with self.subTest(name):
                assert_refused(self, NoRow, places, row)


class SizesTest(unittest.TestCase):
    def test_no_sizes(self):
        for ask in (can_be, reckoned, row_of, many, rows):
            for size in NO_SIZES:
                with self.subTest(ask=ask.__name__, size=size):
                    assert_refused(self, NoSize, ask, size)

    def test_argument_names(self):
        self.assertIs(can_be(size=1), True)
        self.assertEqual(reckoned(size=1), (1, 0))
        self.assertEqual(row_of(size=1), [1, 1])
        self.assertEqual(many(size=1), 1)
        self.assertEqual(rows(size=1), [[1, 1]])


class CanBeTest(unittest.TestCase):
    def test_every_size(self):
        self.assertEqual((len(POSSIBLE), len(IMPOSSIBLE)), (200, 200))
        for size in POSSIBLE:
            self.assertIs(can_be(size), True, size)
        for size in IMPOSSIBLE:
            self.assertIs(can_be(size), False, size)


class RowOfTest(unittest.TestCase):
    def test_every_size_that_can_be(self):
        for size in POSSIBLE:
            row = row_of(size)
            self.assertIs(type(row), list)
            self.assertEqual(len(row), 2 * size)
            self.assertTrue(stands_as_it_must(row), size)
            self.assertIs(is_row(row), True, size)

    def test_every_size_that_cannot_be(self):
        for size in IMPOSSIBLE:
            with self.subTest(size=size):
                assert_refused(self, NoSuch, row_of, size)

    def test_no_size_goes_ahead_of_no_such(self):
        for size in (-2, -1, 402, 403, 10 ** 29 + 2, 10 ** 29 + 3):
            with self.subTest(size=size):
                self.assertIn(size % 4, (2, 3))
                assert_refused(self, NoSize, row_of, size)


class ReckonedTest(unittest.TestCase):
    def test_every_size(self):
        for size in SIZES:
            odd_numbers = len([number for number in range(1, size + 1) if number % 2 == 1])
            odd_places = len([place for place in range(1, 2 * size + 1) if place % 2 == 1])
            told = reckoned(size)
            self.assertIs(type(told), tuple)
            self.assertEqual(told, (odd_numbers, odd_places - odd_numbers))

    def test_second_is_even_just_where_a_row_can_be(self):
        for size in SIZES:
            self.assertEqual(reckoned(size)[1] % 2 == 0, can_be(size))


class ManyTest(unittest.TestCase):
    def test_known(self):
        self.assertEqual([many(size) for size in range(1, 9)], [1, 0, 0, 6, 10, 0, 0, 504])

    def test_against_a_count(self):
        for size in range(1, 9):
            told = many(size)
            self.assertIs(type(told), int)
            self.assertEqual(told, count_by_bits(size, 0, 2 * size))

    def test_above_8(self):
        for size in range(9, 401):
            assert_refused(self, NoSize, many, size)


class RowsTest(unittest.TestCase):
    def test_against_every_way_to_lay(self):
        for size in range(1, 6):
            told = rows(size)
            self.assertIs(type(told), list)
            self.assertEqual(told, rows_by_first_places(size))
            self.assertEqual(len(told), many(size))

    def test_all_are_rows_the_lesser_first(self):
        for size in (1, 4, 5):
            told = rows(size)
            for row in told:
                self.assertIs(type(row), list)
                self.assertEqual(len(row), 2 * size)
                self.assertIs(is_row(row), True)
            for lesser, greater in zip(told, told[1:]):
                self.assertLess(lesser, greater)

    def test_known(self):
        self.assertEqual(rows(1), [[1, 1]])
        self.assertEqual(rows(2), [])
        self.assertEqual(rows(3), [])
        self.assertEqual(rows(4), [
            [1, 1, 3, 4, 2, 3, 2, 4],
            [1, 1, 4, 2, 3, 2, 4, 3],
            [2, 3, 2, 4, 3, 1, 1, 4],
            [3, 4, 2, 3, 2, 4, 1, 1],
            [4, 1, 1, 3, 4, 2, 3, 2],
            [4, 2, 3, 2, 4, 3, 1, 1],
        ])

    def test_above_5(self):
        for size in range(6, 401):
            assert_refused(self, NoSize, rows, size)


class OwnTest(unittest.TestCase):
    """Point 1: nothing handed in is changed, and what is told is the asker's own."""

    def test_nothing_handed_in_is_changed(self):
        for ask in (is_row, contrary, places):
            for row in list(KNOWN_ROWS) + list(NO_ROWS.values()):
                given = list(row)
                try:
                    ask(given)
                except ApartError:
                    pass
                self.assertEqual(given, row)

    def test_what_was_handed_in_may_be_changed_later(self):
        for ask in (contrary, places):
            for row in KNOWN_ROWS:
                given = list(row)
                told = ask(given)
                before = list(told)
                given.reverse()
                given.append(7)
                given[0] = 0
                self.assertEqual(told, before)
                self.assertEqual(ask(list(row)), before)

    def test_a_list_that_was_changed_is_looked_at_anew(self):
        given = [1, 1]
        self.assertIs(is_row(given), True)
        given.append(2)
        self.assertIs(is_row(given), False)
        assert_refused(self, NoRow, places, given)
        given[:] = SIZE_4
        self.assertEqual(places(given), [(0, 1), (4, 6), (2, 5), (3, 7)])

    def test_contrary_is_another_list(self):
        for row in KNOWN_ROWS:
            given = list(row)
            self.assertIsNot(contrary(given), given)
            self.assertIsNot(contrary(given), contrary(given))

    def test_told_lists_may_be_changed(self):
        asked = [(row_of, size) for size in POSSIBLE]
        asked += [(rows, size) for size in range(1, 6)]
        asked += [(ask, list(row)) for ask in (contrary, places) for row in KNOWN_ROWS]
        for ask, about in asked:
            with self.subTest(ask=ask.__name__, about=about):
                told = ask(about)
                before = list(told)
                told.append(9)
                told.reverse()
                again = ask(about)
                self.assertEqual(again, before)
                self.assertIsNot(again, told)

    def test_rows_told_may_be_changed(self):
        for size in (1, 4, 5):
            before = [list(row) for row in rows(size)]
            for row in rows(size):
                row.clear()
            self.assertEqual(rows(size), before)
            row_of(size).clear()
            self.assertEqual(rows(size), before)
            self.assertEqual(many(size), len(before))
            self.assertTrue(stands_as_it_must(row_of(size)))

    def test_no_two_lists_are_one(self):
        for size in (1, 4, 5):
            one, other = rows(size), rows(size)
            told = [one, other, row_of(size), row_of(size)] + one + other
            self.assertEqual(len({id(some) for some in told}), len(told))
        self.assertIsNot(rows(2), rows(2))
        self.assertIsNot(rows(2), rows(3))
        for size in POSSIBLE:
            self.assertIsNot(row_of(size), row_of(size))
        for row in KNOWN_ROWS:
            self.assertIsNot(places(row), places(row))


if __name__ == "__main__":
    unittest.main()
