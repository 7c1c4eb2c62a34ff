"""Rows: each number from one to the size stands twice, as many places apart as it tells."""

from sameapart.errors import NoRow, NoSize, NoSuch

GREATEST = 400
GREATEST_COUNTED = 8
GREATEST_TOLD = 5

# Of all sizes that can be, first_place fails this one alone: 1 and 5 would fall together.
ROW_OF_FIVE = (1, 1, 3, 4, 5, 3, 2, 4, 2, 5)


def check_size(size, greatest):
    if size < 1 or size > greatest:
        raise NoSize(f"the size {size} is not from 1 to {greatest}")


def check_row(row):
    if not is_row(row):
        raise NoRow("the list is no row")


def found_places(row):
    found = {}
    for place, number in enumerate(row):
        if number not in found:
            found[number] = []
        found[number].append(place)
    return found


def stands_well(number, some):
    return len(some) == 2 and some[1] - some[0] == number


# Other numbers need not be looked for: the numbers from one to the size, each twice, leave no place free.
def is_row(row):
    size = len(row) // 2
    if len(row) != 2 * size or size < 1 or size > GREATEST:
        return False
    found = found_places(row)
    return all([stands_well(number, found.get(number, [])) for number in range(1, size + 1)])


def contrary(row):
    check_row(row)
    return list(reversed(row))


def places(row):
    check_row(row)
    found = found_places(row)
    return [tuple(found[number]) for number in range(1, len(row) // 2 + 1)]


def can_be(size):
    check_size(size, GREATEST)
    return size % 4 <= 1


# Of the places, twice the size in all, just half have an odd number.
def reckoned(size):
    check_size(size, GREATEST)
    odd = (size + 1) // 2
    return (odd, size - odd)


# The even numbers lie one within another about a middle in the second half. The odd ones lie so in the first half,
# the greater ones about one middle and the lesser ones about another, one place on. Three odd numbers fill the gaps:
# 1 goes between the greater and the lesser ones; the other two begin in the middle of the lesser ones, and the one
# ends behind all the odd ones, the other in the middle of the even ones.
def first_place(number, size):
    quarter = size // 4
    rest = size % 4
    if number % 2 == 0:
        return 6 * quarter + 2 * rest - 1 - number // 2
    if number == 1:
        return quarter + rest - 1
    if number == 2 * quarter - 1:
        return 2 * quarter + 2 * rest - 1
    if number == 4 * quarter - 1 + 2 * rest:
        return 2 * quarter
    if number > 2 * quarter:
        return (4 * quarter + 2 * rest - 3 - number) // 2
    return (4 * quarter + 2 * rest - 1 - number) // 2


def with_number(part, number, first):
    longer = list(part)
    longer[first] = number
    longer[first + number] = number
    return longer


def row_of(size):
    if not can_be(size):
        raise NoSuch(f"there is no row of size {size}")
    if size == 5:
        return list(ROW_OF_FIVE)
    row = [0] * (2 * size)
    for number in range(1, size + 1):
        row = with_number(row, number, first_place(number, size))
    return row


def fits(part, number, first):
    second = first + number
    return number not in part and second < len(part) and part[second] == 0


# A free place holds nought. The lesser number goes first at the first free place, so the lesser row comes first.
def carried_on(part):
    first = part.index(0)
    size = len(part) // 2
    return [with_number(part, number, first) for number in range(1, size + 1) if fits(part, number, first)]


def all_rows(size):
    begun = [[0] * (2 * size)]
    for step in range(size):
        longer = []
        for part in begun:
            longer.extend(carried_on(part))
        begun = longer
    return begun


def many(size):
    check_size(size, GREATEST_COUNTED)
    return len(all_rows(size))


def rows(size):
    check_size(size, GREATEST_TOLD)
    return all_rows(size)
