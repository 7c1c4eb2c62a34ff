"""Notes: a row written by its numbers' figures with one blank between two, and read again."""

from sameapart.errors import NoNote
from sameapart.rows import GREATEST, check_row, is_row

FIGURES = "0123456789"


def shown(row):
    check_row(row)
    return " ".join([str(number) for number in row])


# No number of a row has more figures than the greatest size has; of some thousands of figures int can't make a number.
def writes_number(part):
    if part == "" or part.startswith("0") or len(part) > len(str(GREATEST)):
        return False
    return all([sign in FIGURES for sign in part])


def numbers_of(text):
    parts = text.split(" ")
    if not all([writes_number(part) for part in parts]):
        raise NoNote("the text does not write numbers with one blank between two")
    return [int(part) for part in parts]


def read(text):
    row = numbers_of(text)
    if not is_row(row):
        raise NoNote("the numbers of the text are no row")
    return row
