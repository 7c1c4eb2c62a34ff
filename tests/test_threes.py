"""Points 1 and 7 to 10 of the document, for sameapart.threes."""

import itertools
import unittest

from sameapart.errors import ApartError, NoPerson, NoRow, NoSize
from sameapart.rows import contrary, row_of, rows
from sameapart.threes import day, group, groups, is_group, people, third
from samples import KNOWN_ROWS, NO_ROWS, SIZE_4, THIRTY_FIGURES, assert_refused, skolem

SMALL_ROWS = [list(row) for row in KNOWN_ROWS]
SMALL_ROWS += [row for size in (1, 4, 5) for row in rows(size)]
SMALL_ROWS += [row_of(8), contrary(row_of(8)), row_of(9), contrary(row_of(9)), skolem(8), skolem(9)[::-1]]

GREAT_ROWS = [row_of(100), row_of(400), contrary(row_of(400)), skolem(397)]

# The groups of [1, 1], reckoned by hand: person 0, person 1 and person 1 + 1 + 1, and these turned.
GROUPS_OF_ONE = [(0, 1, 3), (0, 2, 6), (0, 4, 5), (1, 2, 4), (1, 5, 6), (2, 3, 5), (3, 4, 6)]

# Those of SIZE_4 that are not turned: the second places of 1, 2, 3 and 4 are 1, 6, 5 and 7.
BASES_OF_FOUR = [(0, 1, 6), (0, 2, 11), (0, 3, 10), (0, 4, 12)]


def bases_by_the_words(row):
    """For each number of the row its group as point 7 tells it, not turned."""
    size = len(row) // 2
    told = []
    for number in range(1, size + 1):
        second = [place for place in range(2 * size) if row[place] == number][1]
        told.append((0, number, size + second + 1))
    return told


def turned_by(three, step, count):
    return tuple(sorted((person + step) % count for person in three))


def groups_by_the_words(row):
    """All groups as point 7 tells them, without sameapart.threes."""
    count = 6 * (len(row) // 2) + 1
    return sorted(turned_by(three, step, count) for three in bases_by_the_words(row) for step in range(count))


def no_persons(count):
    return (-1, -2, -count, 1 - count, count, count + 1, 2 * count, THIRTY_FIGURES, -THIRTY_FIGURES)


class RefusalsTest(unittest.TestCase):
    def test_no_row_goes_ahead_of_all_else(self):
        for name, row in NO_ROWS.items():
            with self.subTest(name):
                assert_refused(self, NoRow, people, row)
                assert_refused(self, NoRow, groups, row)
                for person in (0, 1, -1, 7, 10 ** 4, THIRTY_FIGURES, -THIRTY_FIGURES):
                    assert_refused(self, NoRow, day, row, person)
                for one, other in ((0, 1), (1, 1), (0, -1), (-1, 0), (0, 10 ** 4), (THIRTY_FIGURES, THIRTY_FIGURES)):
                    assert_refused(self, NoRow, third, row, one, other)
                    assert_refused(self, NoRow, group, row, one, other)
                for some in ((0, 1, 3), (0, 0, 0), (3, 1, 0), (-1, 0, 1), (0, 1, THIRTY_FIGURES)):
                    assert_refused(self, NoRow, is_group, row, some)

    def test_no_person(self):
        for row in SMALL_ROWS + GREAT_ROWS:
            count = people(row)
            for wrong in no_persons(count):
                with self.subTest(size=len(row) // 2, wrong=wrong):
                    assert_refused(self, NoPerson, day, row, wrong)
                    for ask in (third, group):
                        assert_refused(self, NoPerson, ask, row, wrong, wrong)
                        for person in (0, 1, count - 1):
                            assert_refused(self, NoPerson, ask, row, wrong, person)
                            assert_refused(self, NoPerson, ask, row, person, wrong)

    def test_two_that_are_one(self):
        for row in SMALL_ROWS:
            for person in range(people(row)):
                assert_refused(self, NoPerson, third, row, person, person)
                assert_refused(self, NoPerson, group, row, person, person)
        for row in GREAT_ROWS:
            for person in (0, 1, 200, people(row) - 1):
                assert_refused(self, NoPerson, third, row, person, person)
                assert_refused(self, NoPerson, group, row, person, person)

    def test_the_last_person_is_one(self):
        for row in SMALL_ROWS + GREAT_ROWS:
            last = people(row) - 1
            self.assertEqual(len(day(row, last)), 3 * (len(row) // 2))
            self.assertEqual(group(row, 0, last)[0], 0)
            self.assertEqual(group(row, last, 0)[2], last)

    def test_groups_of_a_row_above_9(self):
        for size in range(12, 401, 4):
            assert_refused(self, NoSize, groups, row_of(size))
            assert_refused(self, NoSize, groups, contrary(row_of(size)))
        for size in range(13, 400, 4):
            assert_refused(self, NoSize, groups, row_of(size))


class PeopleTest(unittest.TestCase):
    def test_known(self):
        self.assertEqual(people([1, 1]), 7)
        self.assertEqual(people(SIZE_4), 25)
        self.assertEqual(people(row_of(400)), 2401)

    def test_every_size(self):
        for size in range(1, 401):
            if size % 4 <= 1:
                told = people(row_of(size))
                self.assertIs(type(told), int)
                self.assertEqual(told, 6 * size + 1)

    def test_argument_name(self):
        self.assertEqual(people(row=[1, 1]), 7)


class GroupsTest(unittest.TestCase):
    def test_known(self):
        self.assertEqual(groups([1, 1]), GROUPS_OF_ONE)
        self.assertEqual(groups(row=[1, 1]), GROUPS_OF_ONE)
        expected = sorted(turned_by(three, step, 25) for three in BASES_OF_FOUR for step in range(25))
        self.assertEqual(groups(SIZE_4), expected)

    def test_by_the_words(self):
        for row in SMALL_ROWS:
            with self.subTest(row=row):
                self.assertEqual(groups(row), groups_by_the_words(row))

    def test_kinds_and_order(self):
        for row in SMALL_ROWS:
            told = groups(row)
            self.assertIs(type(told), list)
            for three in told:
                self.assertIs(type(three), tuple)
                self.assertEqual([type(person) for person in three], [int, int, int])
                self.assertLess(three[0], three[1])
                self.assertLess(three[1], three[2])
            for lesser, greater in zip(told, told[1:]):
                self.assertLess(lesser, greater)

    def test_as_many_as_the_size_times_the_people(self):
        for row in SMALL_ROWS:
            self.assertEqual(len(groups(row)), len(row) // 2 * people(row))

    def test_each_two_are_in_just_one(self):
        for row in SMALL_ROWS:
            pairs = sorted(pair for three in groups(row) for pair in itertools.combinations(three, 2))
            self.assertEqual(pairs, list(itertools.combinations(range(people(row)), 2)))

    def test_each_person_is_in_three_times_the_size(self):
        for row in SMALL_ROWS:
            told = groups(row)
            for person in range(people(row)):
                self.assertEqual(len([three for three in told if person in three]), 3 * (len(row) // 2))

    def test_hangs_on_the_row(self):
        self.assertNotEqual(groups(SIZE_4), groups(contrary(SIZE_4)))


class GroupTest(unittest.TestCase):
    def test_known(self):
        self.assertEqual(group([1, 1], 0, 1), (0, 1, 3))
        self.assertEqual(group([1, 1], 3, 0), (0, 1, 3))
        self.assertEqual(group([1, 1], 6, 0), (0, 2, 6))
        self.assertEqual(group(row=[1, 1], one=5, other=4), (0, 4, 5))
        self.assertEqual(group(SIZE_4, 24, 1), (1, 10, 24))

    def test_all_of_small_rows(self):
        for row in SMALL_ROWS:
            for three in groups_by_the_words(row):
                for one, other in itertools.permutations(three, 2):
                    told = group(row, one, other)
                    self.assertIs(type(told), tuple)
                    self.assertEqual(told, three)

    def test_bases_and_their_turnings_of_great_rows(self):
        for row in GREAT_ROWS:
            count = people(row)
            for place, base in enumerate(bases_by_the_words(row)):
                for step in (0, place * 17 % count):
                    three = turned_by(base, step, count)
                    one, other, last = [(person + step) % count for person in base]
                    self.assertEqual(group(row, one, other), three)
                    self.assertEqual(group(row, last, one), three)
                    self.assertEqual(group(row, other, last), three)


class ThirdTest(unittest.TestCase):
    def test_known(self):
        self.assertEqual(third([1, 1], 0, 1), 3)
        self.assertEqual(third([1, 1], 1, 0), 3)
        self.assertEqual(third([1, 1], 3, 0), 1)
        self.assertEqual(third([1, 1], 6, 0), 2)
        self.assertEqual(third(row=[1, 1], one=2, other=6), 0)
        self.assertEqual([third(SIZE_4, 0, number) for number in (1, 2, 3, 4)], [6, 11, 10, 12])

    def test_all_of_small_rows(self):
        for row in SMALL_ROWS:
            for three in groups_by_the_words(row):
                for one, other, last in itertools.permutations(three):
                    told = third(row, one, other)
                    self.assertIs(type(told), int)
                    self.assertEqual(told, last)

    def test_great_rows_either_way_round(self):
        for row in GREAT_ROWS:
            count = people(row)
            for place, base in enumerate(bases_by_the_words(row)):
                for one, other, last in itertools.permutations(base):
                    self.assertEqual(third(row, one, other), last)
                step = place * 29 % count
                one, other, last = [(person + step) % count for person in base]
                self.assertEqual(third(row, one, other), last)
                self.assertEqual(third(row, other, last), one)
                self.assertEqual(third(row, last, one), other)

    def test_each_two_of_a_great_row_meet_once(self):
        for row in (row_of(400), contrary(row_of(400))):
            for person in (0, 1234):
                others = [other for other in range(2401) if other != person]
                met = [third(row, person, other) for other in others]
                self.assertEqual(sorted(met), others)
                partner = dict(zip(others, met))
                for other in others:
                    self.assertEqual(partner[partner[other]], other)


class DayTest(unittest.TestCase):
    def test_known(self):
        self.assertEqual(day([1, 1], 0), [(0, 1, 3), (0, 2, 6), (0, 4, 5)])
        self.assertEqual(day([1, 1], 6), [(0, 2, 6), (1, 5, 6), (3, 4, 6)])
        self.assertEqual(day(row=[1, 1], person=5), [(0, 4, 5), (1, 5, 6), (2, 3, 5)])

    def test_every_person_of_small_rows(self):
        for row in SMALL_ROWS:
            known = groups_by_the_words(row)
            for person in range(people(row)):
                told = day(row, person)
                self.assertIs(type(told), list)
                self.assertEqual({type(three) for three in told}, {tuple})
                self.assertEqual(told, [three for three in known if person in three])
                self.assertEqual(len(told), 3 * (len(row) // 2))

    def test_great_rows(self):
        for row in GREAT_ROWS:
            count = people(row)
            bases = bases_by_the_words(row)
            for person in (0, 1, 999 % count, count - 1):
                told = day(row, person)
                expected = [turned_by(base, person - member, count) for base in bases for member in base]
                self.assertEqual(told, sorted(expected))
                self.assertEqual(len(told), 3 * (len(row) // 2))
                others = sorted(other for three in told for other in three if other != person)
                self.assertEqual(others, [other for other in range(count) if other != person])


class IsGroupTest(unittest.TestCase):
    def test_known(self):
        self.assertIs(is_group([1, 1], (0, 1, 3)), True)
        self.assertIs(is_group([1, 1], (0, 1, 2)), False)
        self.assertIs(is_group(row=[1, 1], some=(3, 4, 6)), True)

    def test_any_three_numbers_about_size_1(self):
        for some in itertools.product(range(-8, 16), repeat=3):
            self.assertIs(is_group([1, 1], some), some in GROUPS_OF_ONE, some)

    def test_any_three_numbers_about_size_4(self):
        for row in (SIZE_4, contrary(SIZE_4)):
            known = dict.fromkeys(groups_by_the_words(row), True)
            for some in itertools.product(range(-2, 27), repeat=3):
                self.assertIs(is_group(row, some), some in known, some)

    def test_rising_threes_of_small_rows(self):
        for row in (row_of(5), row_of(8), contrary(row_of(9))):
            known = dict.fromkeys(groups_by_the_words(row), True)
            for some in itertools.combinations(range(people(row)), 3):
                self.assertIs(is_group(row, some), some in known, some)

    def test_not_told_rising(self):
        for row in SMALL_ROWS:
            for three in groups_by_the_words(row):
                for some in itertools.permutations(three):
                    self.assertIs(is_group(row, some), some == three)

    def test_great_rows(self):
        for row in GREAT_ROWS:
            count = people(row)
            for place, base in enumerate(bases_by_the_words(row)):
                three = turned_by(base, place * 31 % count, count)
                self.assertIs(is_group(row, three), True)
                self.assertIs(is_group(row, three[::-1]), False)
                self.assertIs(is_group(row, (three[0], three[1], three[2] + 1)), False)
                self.assertIs(is_group(row, (three[0], three[1], three[2] + count)), False)
                self.assertIs(is_group(row, (three[0] - count, three[1], three[2])), False)

    def test_no_persons_and_two_that_are_one(self):
        for row in SMALL_ROWS + GREAT_ROWS:
            count = people(row)
            for wrong in no_persons(count):
                for some in ((wrong, 0, 1), (0, wrong, 1), (0, 1, wrong), (wrong, wrong, 1), (0, wrong, wrong)):
                    self.assertIs(is_group(row, some), False)
                self.assertIs(is_group(row, (wrong, wrong + 1, wrong + 2)), False)
                self.assertIs(is_group(row, (wrong, wrong, wrong)), False)
            for some in ((0, 0, 0), (0, 0, 1), (0, 1, 1), (0, 1, 0), (count - 1, count - 1, count - 1)):
                self.assertIs(is_group(row, some), False)

    def test_a_group_told_by_other_numbers_for_its_people(self):
        for row in SMALL_ROWS:
            count = people(row)
            great = 10 ** 29 // count * count
            for three in groups_by_the_words(row):
                one, other, last = three
                for step in (count, -count, great, -great):
                    self.assertIs(is_group(row, (one + step, other, last)), False)
                    self.assertIs(is_group(row, (one, other + step, last)), False)
                    self.assertIs(is_group(row, (one, other, last + step)), False)
                    self.assertIs(is_group(row, (one + step, other + step, last + step)), False)


class OwnTest(unittest.TestCase):
    """Point 1: nothing handed in is changed, and what is told is the asker's own."""

    def asked(self):
        for row in SMALL_ROWS:
            yield people, (row,)
            yield groups, (row,)
            yield day, (row, 2)
            yield third, (row, 5, 2)
            yield group, (row, 5, 2)
            yield is_group, (row, (0, 1, 3))

    def test_nothing_handed_in_is_changed(self):
        for ask, handed in self.asked():
            given = list(handed[0])
            ask(given, *handed[1:])
            self.assertEqual(given, handed[0])
        for row in NO_ROWS.values():
            for ask, more in ((people, ()), (groups, ()), (day, (2,)), (third, (0, 1)), (group, (0, 1))):
                given = list(row)
                with self.assertRaises(NoRow):
                    ask(given, *more)
                self.assertEqual(given, row)

    def test_refusing_a_person_or_a_size_changes_nothing(self):
        given = row_of(12)
        before = list(given)
        for ask, more in ((groups, ()), (day, (73,)), (third, (0, 0)), (group, (0, -1))):
            with self.assertRaises(ApartError):
                ask(given, *more)
            self.assertEqual(given, before)

    def test_what_was_handed_in_may_be_changed_later(self):
        for ask, handed in self.asked():
            if ask in (groups, day):
                given = list(handed[0])
                told = ask(given, *handed[1:])
                before = list(told)
                given.reverse()
                given.append(7)
                given[0] = 0
                self.assertEqual(told, before)
                self.assertEqual(ask(list(handed[0]), *handed[1:]), before)

    def test_a_row_that_was_changed_is_looked_at_anew(self):
        given = [1, 1]
        self.assertEqual(people(given), 7)
        given[:] = SIZE_4
        self.assertEqual(people(given), 25)
        self.assertEqual(third(given, 0, 1), 6)
        self.assertIs(is_group(given, (0, 1, 3)), False)
        given.reverse()
        self.assertEqual(groups(given), groups_by_the_words(given))
        self.assertEqual(day(given, 0), [three for three in groups_by_the_words(given) if 0 in three])
        given.append(1)
        with self.assertRaises(NoRow):
            day(given, 0)

    def test_told_lists_may_be_changed(self):
        for ask, handed in self.asked():
            if ask in (groups, day):
                told = ask(*handed)
                before = list(told)
                told.reverse()
                told.append((0, 0, 0))
                del told[0]
                again = ask(*handed)
                self.assertIsNot(again, told)
                self.assertEqual(again, before)
                self.assertEqual(groups(handed[0]), groups_by_the_words(handed[0]))


if __name__ == "__main__":
    unittest.main()
