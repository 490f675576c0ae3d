"""Lists of calls of all the places, wrong ones among them, answered call by call by the document's words.

Nothing here draws on the program's own functions but `answers`.
"""

import random
import unittest

from tests.helper import ask
from tests.test_words import Words, as_answer


def flat_rows(rows):
    return [number for numbers in rows for number in [len(numbers)] + numbers]


# Ranges by the calls' places, as the document's list of the calls tells them: of the
# arguments, then of the row's length and of its numbers, if there is a row.
SEATS, CLASS, WEIGHT, TO_GO = (0, 60), (0, 7), (0, 1000), (0, 20)
RANGES = {
    0: ([SEATS], [(1, 8), (1, 1000000)]),
    1: ([CLASS], [(1, 21), WEIGHT]),
    2: ([CLASS, (0, 20)], None),
    3: ([CLASS, SEATS], None),
    4: ([CLASS, (1, 60)], None),
    5: ([], None),
    6: ([CLASS, SEATS, SEATS], None),
    7: ([], [(1, 8), SEATS]),
    8: ([], [(0, 7), SEATS]),
    9: ([], [(1, 8), SEATS]),
    10: ([], None),
    11: ([CLASS, SEATS], None),
    12: ([CLASS], None),
    13: ([], [(2, 9), WEIGHT]),
    14: ([TO_GO, SEATS], None),
    15: ([(1, 20), SEATS], None),
    16: ([SEATS], [(0, 20), (0, 8)]),
    17: ([], None),
    18: ([], None),
}


def random_call(rng, place):
    """A place, arguments and rows: mostly small and fitting a plan of 2 classes, at times wrong."""
    ranges, of_row = RANGES[place]
    numbers = [random_number(rng, low, high, 4) for low, high in ranges]
    if of_row is None:
        return place, numbers, []
    length = {0: 2, 1: 4, 7: 2, 8: 1, 9: 2, 13: 3, 16: rng.choice([0, 1, 2, 20])}[place]
    if rng.randrange(8) == 0:
        length = random_number(rng, *of_row[0], 5)
    row = [random_number(rng, *of_row[1], 9) for step in range(max(length, 0))]
    if place in (1, 13) and rng.randrange(8) == 0:
        row = [rng.choice([0, 1000])] * len(row)
    if place == 0 and rng.randrange(8):
        row = sorted(row, reverse=True)
    return place, numbers, [row]


def random_number(rng, low, high, small):
    if rng.randrange(40) == 0:
        return rng.choice([low - 1, high + 1, low, high])
    return rng.randint(low, min(small, high))


class Teller:
    """All calls of a list, refusals among them, told by the document's words."""

    def __init__(self):
        self.words = None

    def tell(self, place, numbers, rows):
        ranges, of_row = RANGES[place]
        if any(not low <= number <= high for (low, high), number in zip(ranges, numbers, strict=True)):
            return [-2]
        if of_row is not None:
            (shortest, longest), (low, high) = of_row
            if not shortest <= len(rows[0]) <= longest or any(not low <= n <= high for n in rows[0]):
                return [-2]
        if place == 0:
            return self.new(numbers[0], rows[0])
        if self.words is None:
            return [-3]
        if place in (1, 2, 3, 4, 6, 11, 12) and numbers[0] >= len(self.words.fares):
            return [-4]
        own = self.refusal(place, numbers, rows)
        return [own] if own else self.taken(place, numbers, rows)

    def new(self, seats, fares):
        if any(fare <= below for fare, below in zip(fares, fares[1:])):
            return [-5]
        self.words = Words(seats, fares)
        return [0]

    def refusal(self, place, numbers, rows):
        words = self.words
        classes, periods = len(words.fares), len(words.periods)
        if place == 1:
            return -5 if set(rows[0]) == {0} else 0
        if place == 2:
            return -6 if words.weights[numbers[0]].get(numbers[1]) == 1000 else 0
        if place in (3, 4, 6):
            return -8 if numbers[1] > words.seats else 0
        if place in (7, 9):
            return -7 if len(rows[0]) != classes else 0
        if place == 8:
            return -7 if len(rows[0]) != classes - 1 else 0
        if place == 13:
            if len(rows[0]) != classes + 1:
                return -7
            if set(rows[0]) == {0}:
                return -5
            return -6 if periods == 20 else 0
        if place in (14, 15):
            if numbers[0] > periods:
                return -9
            return -8 if numbers[1] > words.seats else 0
        if place == 16:
            if numbers[0] > words.seats:
                return -8
            return -7 if len(rows[0]) != periods or max(rows[0], default=0) > classes else 0
        return 0

    def taken(self, place, numbers, rows):
        words = self.words
        row = rows[0] if rows else []
        if place == 1:
            words.demand(numbers[0], row)
            return [0]
        if place == 17:
            words.clear()
            return [0]
        fractions = {
            3: words.worth, 4: words.seat, 8: lambda: words.mean_of_all_days(row), 10: words.mean_known,
            11: words.chance_of_more, 12: words.mean_asked, 14: words.span,
        }
        if place in fractions:
            return as_answer(fractions[place](*numbers))
        whole = {
            2: lambda i, d: [words.observe(i, d)],
            5: words.protections,
            6: lambda i, x, n: [words.sold(i, x, n, words.protections())],
            7: lambda: words.day(row, words.protections()),
            9: lambda: words.known(row),
            13: lambda: [words.period(row)],
            15: lambda t, x: [words.accept(t, x)],
            16: lambda x: words.requests(x, row),
            18: words.shown,
        }
        return [0] + whole[place](*numbers)


class MixedLists(unittest.TestCase):
    def test_mixed(self):
        rng = random.Random(8)
        seen = set()
        for turn in range(300):
            places = list(range(19))
            if rng.randrange(2):
                # So that there are often many periods.
                places = places[1:17] + places[18:] + [13] * 12
            length = rng.randint(1, 99)
            calls = [random_call(rng, rng.choice([0, rng.randrange(19)]))]
            calls += [random_call(rng, rng.choice(places)) for step in range(length)]
            teller = Teller()
            due = [teller.tell(*call) for call in calls]
            got = ask(*[[call[0]] + call[1] + flat_rows(call[2]) for call in calls])
            for call, part, right in zip(calls, got, due, strict=True):
                self.assertEqual(part, right, (calls, call))
                seen.add((call[0], min(right[0], 0)))
        due_seen = {
            0: (-5, -2, 0), 1: (-5, -4, -3, -2, 0), 2: (-6, -4, -3, -2, 0), 3: (-8, -4, -3, -2, 0),
            4: (-8, -4, -3, -2, 0), 5: (-3, 0), 6: (-8, -4, -3, -2, 0), 7: (-7, -3, -2, 0), 8: (-7, -3, -2, 0),
            9: (-7, -3, -2, 0), 10: (-3, 0), 11: (-4, -3, -2, 0), 12: (-4, -3, -2, 0), 13: (-7, -6, -5, -3, -2, 0),
            14: (-9, -8, -3, -2, 0), 15: (-9, -8, -3, -2, 0), 16: (-8, -7, -3, -2, 0), 17: (-3, 0), 18: (-3, 0),
        }
        self.assertEqual(seen, {(place, first) for place in due_seen for first in due_seen[place]})


if __name__ == "__main__":
    unittest.main()
