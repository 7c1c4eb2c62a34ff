"""What several tests lean on: lists that are rows, lists that are none, and how a refusal is looked at."""

from sameapart.errors import ApartError, NoNote, NoPerson, NoRow, NoSize, NoSuch

REFUSALS = (NoSize, NoSuch, NoRow, NoPerson, NoNote)
THIRTY_FIGURES = 10 ** 30 - 1

SIZE_4 = [1, 1, 3, 4, 2, 3, 2, 4]
KNOWN_ROWS = (
    [1, 1],
    SIZE_4,
    [1, 1, 4, 2, 3, 2, 4, 3],
    [2, 3, 2, 4, 3, 1, 1, 4],
    [4, 2, 3, 2, 4, 3, 1, 1],
    [2, 4, 2, 3, 5, 4, 3, 1, 1, 5],
    [5, 1, 1, 3, 4, 5, 3, 2, 4, 2],
    [5, 1, 1, 3, 7, 5, 3, 8, 6, 4, 2, 7, 2, 4, 6, 8],
)


def stands_as_it_must(row):
    """Whether a list is a row, of whatever size: looked at number by number."""
    if not row or len(row) % 2:
        return False
    for number in range(1, len(row) // 2 + 1):
        if row.count(number) != 2:
            return False
        first = row.index(number)
        if row.index(number, first + 1) != first + number:
            return False
    return True


def skolem(size):
    """A row of a size from 8 on, by pairs of places counted from one, as Skolem wrote them."""
    s = size // 4
    if size % 4 == 0:
        pairs = [(4 * s + r - 1, 8 * s - r + 1) for r in range(1, 2 * s + 1)]
        pairs += [(r, 4 * s - r - 1) for r in range(1, s - 1)]
        pairs += [(s + r + 1, 3 * s - r) for r in range(1, s - 1)]
        pairs += [(s - 1, 3 * s), (s, s + 1), (2 * s, 4 * s - 1), (2 * s + 1, 6 * s)]
    else:
        pairs = [(4 * s + r + 1, 8 * s - r + 3) for r in range(1, 2 * s + 1)]
        pairs += [(r, 4 * s - r + 1) for r in range(1, s + 1)]
        pairs += [(s + r + 2, 3 * s - r + 1) for r in range(1, s - 1)]
        pairs += [(s + 1, s + 2), (2 * s + 1, 6 * s + 2), (2 * s + 2, 4 * s + 1)]
    row = [0] * (2 * size)
    for first, second in pairs:
        row[first - 1] = row[second - 1] = second - first
    return row


def changed(row, place, number):
    other = list(row)
    other[place] = number
    return other


def swapped(row, one, other):
    answer = list(row)
    answer[one], answer[other] = row[other], row[one]
    return answer


def assert_refused(case, kind, ask, *handed):
    """The call is refused with an error of this kind and of no other of the five."""
    with case.assertRaises(ApartError) as taken:
        ask(*handed)
    case.assertIsInstance(taken.exception, ValueError)
    case.assertEqual([other for other in REFUSALS if isinstance(taken.exception, other)], [kind])


NO_ROWS = {
    "no numbers": [],
    "one number": [1],
    "odd length, one too few": SIZE_4[:-1],
    "odd length, one too many": SIZE_4 + [5],
    "odd length, a nought behind": SIZE_4 + [0],
    "odd length, a nought ahead": [0] + SIZE_4,
    "noughts alone": [0, 0],
    "a nought": changed(SIZE_4, 7, 0),
    "two noughts in the place of 1": [0, 0, 3, 4, 2, 3, 2, 4],
    "below nought": changed(SIZE_4, 0, -1),
    "two below nought": [-1, -1],
    "all below nought": [-number for number in SIZE_4],
    "above the size": changed(SIZE_4, 7, 5),
    "two above the size": [2, 2],
    "two above the size, as many apart as they tell": [3, 1, 1, 3],
    "two too near, two too far apart": [1, 1, 3, 5, 2, 3, 2, 4, 5, 4],
    "a pair left out": [3, 4, 2, 3, 2, 4],
    "a pair above left out": [1, 1, 3, 2, 3, 2],
    "once": [1, 2],
    "three times": [1, 1, 1, 2],
    "four times": [1, 1, 1, 1],
    "once and three times": [1, 1, 3, 4, 2, 3, 4, 4],
    "three times, two of them well": [1, 1, 3, 1, 2, 3, 2, 4],
    "too far apart": [1, 2, 2, 1],
    "too near": [1, 1, 2, 2],
    "one more apart": [2, 1, 1, 2],
    "places told as between": [2, 3, 1, 2, 1, 3],
    "all well but the greatest": [1, 1, 3, 4, 2, 3, 2, 4, 5, 5],
    "a size that can't be": [1, 1, 2, 3, 2, 3],
    "two rows together": SIZE_4 + SIZE_4,
    "thirty figures": [THIRTY_FIGURES, THIRTY_FIGURES],
    "thirty figures below nought": [-THIRTY_FIGURES, -THIRTY_FIGURES],
    "thirty figures in a row": changed(SIZE_4, 3, THIRTY_FIGURES),
    "thirty figures below nought in a row": changed(SIZE_4, 3, -THIRTY_FIGURES),
    "size 401": skolem(401),
    "size 404": skolem(404),
    "size 405": skolem(405),
    "size 449": skolem(449),
    "899 ones": [1] * 899,
    "900 ones": [1] * 900,
    "900 noughts": [0] * 900,
    "900 numbers": list(range(900)),
    "900 great numbers": [THIRTY_FIGURES] * 900,
    "799 numbers of a row": skolem(400)[:-1],
    "a number behind the greatest row": skolem(400) + [401],
    "the greatest row with two changed about": swapped(skolem(400), 0, 799),
    "the greatest row with a number changed": changed(skolem(400), 400, 401),
}
