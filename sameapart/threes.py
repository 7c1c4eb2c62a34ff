"""Groups of three: by a row people are put in groups so that each two meet just once."""

from sameapart.errors import NoPerson
from sameapart.rows import check_row, check_size

GREATEST_GROUPED = 9


def people(row):
    check_row(row)
    return 6 * (len(row) // 2) + 1


def is_person(person, count):
    return person >= 0 and person < count


def are_two_people(one, other, count):
    return is_person(one, count) and is_person(other, count) and one != other


def base_group(row, number):
    second = row.index(number) + number
    return (0, number, len(row) // 2 + second + 1)


def turned(three, step, count):
    return tuple(sorted([(person + step) % count for person in three]))


def turned_to(three, person, count):
    return [turned(three, person - member, count) for member in three]


# A base group's three persons are as many steps apart as its number, as the size, the number's first place and one,
# and as the size, its second place and one. So the steps to the size belong to the numbers, those behind to the places.
def number_of_step(row, step):
    size = len(row) // 2
    if step <= size:
        return step
    return row[step - size - 1]


# No two persons of a base group are more than three times the size apart, so the shorter way round is the one to take.
def group_of_two(row, one, other, count):
    step = min((other - one) % count, (one - other) % count)
    three = base_group(row, number_of_step(row, step))
    return [some for some in turned_to(three, one, count) if other in some][0]


def group(row, one, other):
    count = people(row)
    if not are_two_people(one, other, count):
        raise NoPerson(f"{one} and {other} are not two people of {count}")
    return group_of_two(row, one, other, count)


def third(row, one, other):
    return sum(group(row, one, other)) - one - other


def day(row, person):
    count = people(row)
    if not is_person(person, count):
        raise NoPerson(f"{person} is no person of {count}")
    found = []
    for number in range(1, len(row) // 2 + 1):
        found.extend(turned_to(base_group(row, number), person, count))
    return sorted(found)


# A group is rising, so a tuple that is not can't be the group of its first two.
def is_group(row, some):
    count = people(row)
    one = some[0]
    other = some[1]
    return are_two_people(one, other, count) and group_of_two(row, one, other, count) == some


def groups(row):
    count = people(row)
    size = len(row) // 2
    check_size(size, GREATEST_GROUPED)
    found = []
    for number in range(1, size + 1):
        three = base_group(row, number)
        found.extend([turned(three, step, count) for step in range(count)])
    return sorted(found)
