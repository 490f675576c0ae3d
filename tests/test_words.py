"""Many plans, answered by the document's words written down once more, with Python's fractions.

Nothing here draws on the program's own functions but `answers`.
"""

import itertools
import random
import unittest
from fractions import Fraction

from tests.helper import (
    ask, decide, demand, known, marginal, mean, new, observe, play, protections, value,
)


class Words:
    """A plan as the words tell it."""

    def __init__(self, seats, fares):
        self.seats = seats
        self.fares = fares
        self.weights = [{0: 1} for fare in fares]
        self.found = {}

    def demand(self, i, weights):
        self.weights[i] = dict(enumerate(weights))
        self.found = {}

    def observe(self, i, d):
        self.found = {}
        self.weights[i][d] = self.weights[i].get(d, 0) + 1
        return sum(self.weights[i].values())

    def chance(self, i, d):
        return Fraction(self.weights[i].get(d, 0), sum(self.weights[i].values()))

    def worth(self, i, x):
        if i == -1:
            return Fraction(0)
        if (i, x) not in self.found:
            self.found[i, x] = sum(
                self.chance(i, d) * max(u * self.fares[i] + self.worth(i - 1, x - u) for u in range(min(d, x) + 1))
                for d in self.weights[i]
            )
        return self.found[i, x]

    def seat(self, i, x):
        return self.worth(i, x) - self.worth(i, x - 1)

    def protections(self):
        return [
            max([y for y in range(1, self.seats + 1) if self.seat(i, y) > self.fares[i + 1]], default=0)
            for i in range(len(self.fares) - 1)
        ]

    def sold(self, i, x, d, kept):
        if i == 0:
            return min(d, x)
        room = x - kept[i - 1]
        return min(d, 0 if room < 0 else room)

    def day(self, asked, kept):
        left = self.seats
        sold = {}
        for i in range(len(self.fares) - 1, -1, -1):
            sold[i] = self.sold(i, left, asked[i], kept)
            left -= sold[i]
        sold = [sold[i] for i in range(len(self.fares))]
        return sold + [sum(n * fare for n, fare in zip(sold, self.fares))]

    def known(self, asked):
        left = self.seats
        sold = []
        for number in asked:
            sold.append(min(number, left))
            left -= sold[-1]
        return sold + [sum(n * fare for n, fare in zip(sold, self.fares))]

    def mean_of_all_days(self, kept):
        """The mean over every day that may be, each played by itself."""
        total = Fraction(0)
        for asked in itertools.product(*self.weights):
            chance = Fraction(1)
            for i, d in enumerate(asked):
                chance *= self.chance(i, d)
            if chance:
                total += chance * self.day(asked, kept)[-1]
        return total


def as_answer(fraction):
    return [0, Fraction(fraction).numerator, Fraction(fraction).denominator]


def random_weights(rng, longest):
    top = rng.choice([1, 3, 1000])
    weights = [rng.choice([0, rng.randint(0, top)]) for d in range(rng.randint(1, longest))]
    weights[rng.randrange(len(weights))] = rng.randint(1, top)
    return weights


def random_plan(rng, most_seats, most_classes, longest):
    """The plan in words, and the calls that make it."""
    seats = rng.randint(0, most_seats)
    classes = rng.randint(1, most_classes)
    fares = sorted(rng.sample(range(1, rng.choice([12, 200, 1000001])), classes), reverse=True)
    words = Words(seats, fares)
    calls = [new(seats, fares)]
    for i in range(classes):
        if rng.randrange(5):
            weights = random_weights(rng, longest)
            words.demand(i, weights)
            calls.append(demand(i, weights))
    return words, calls


class SmallPlans(unittest.TestCase):
    def check(self, words, calls, rng):
        looks = []
        due = []
        classes = len(words.fares)
        for i in range(classes):
            for x in range(words.seats + 1):
                looks.append(value(i, x))
                due.append(as_answer(words.worth(i, x)))
                if x > 0:
                    looks.append(marginal(i, x))
                    due.append(as_answer(words.seat(i, x)))
        kept = words.protections()
        looks.append(protections())
        due.append([0] + kept)
        for turn in range(4):
            i = rng.randrange(classes)
            x = rng.randint(0, words.seats)
            n = rng.randint(0, 9)
            looks.append(decide(i, x, n))
            due.append([0, words.sold(i, x, n, kept)])
            asked = [rng.randint(0, words.seats + 2) for fare in words.fares]
            looks.append(play(asked))
            due.append([0] + words.day(asked, kept))
            looks.append(known(asked))
            due.append([0] + words.known(asked))
            numbers = [rng.randint(0, words.seats + 2) for fare in words.fares[1:]]
            looks.append(mean(numbers))
            due.append(as_answer(words.mean_of_all_days(numbers)))
        # Keeping the protections earns just what the seats are worth.
        looks.append(mean(kept))
        due.append(as_answer(words.worth(classes - 1, words.seats)))
        got = ask(*calls, *looks)
        for look, part, right in zip(looks, got[len(calls):], due):
            self.assertEqual(part, right, (calls, look))

    def test_small_plans(self):
        rng = random.Random(1)
        for turn in range(250):
            words, calls = random_plan(rng, 6, 4, 5)
            self.check(words, calls, rng)

    def test_small_plans_with_few_fares(self):
        # Small fares and weights: a seat's worth is often just equal to the next fare.
        rng = random.Random(2)
        equal = 0
        for turn in range(250):
            fares = sorted(rng.sample(range(1, 7), 3), reverse=True)
            words = Words(5, fares)
            calls = [new(5, fares)]
            for i in range(3):
                weights = [1] + [rng.randint(0, 1) for d in range(rng.randint(0, 4))]
                words.demand(i, weights)
                calls.append(demand(i, weights))
            for i in range(2):
                equal += any(words.seat(i, y) == fares[i + 1] for y in range(1, 6))
            self.check(words, calls, rng)
        self.assertGreater(equal, 50)


class ObservedPlans(unittest.TestCase):
    def test_observed(self):
        rng = random.Random(3)
        for turn in range(60):
            words, calls = random_plan(rng, 6, 4, 5)
            due = [[0]] * len(calls)
            for step in range(12):
                i = rng.randrange(len(words.fares))
                d = rng.randint(0, 20)
                calls.append(observe(i, d))
                if words.weights[i].get(d, 0) == 1000:
                    due.append([-6])
                else:
                    due.append([0, words.observe(i, d)])
                look = rng.randrange(len(words.fares))
                calls.append(value(look, words.seats))
                due.append(as_answer(words.worth(look, words.seats)))
                calls.append(protections())
                due.append([0] + words.protections())
            self.assertEqual(ask(*calls), due)


class LargePlans(unittest.TestCase):
    def test_the_largest(self):
        # The sums of the weights are primes and the fares lie close, so that each class
        # sells something and what is below the line stays great.
        sums = [20983, 20981, 20963, 20959, 20947, 20939, 20929, 20921]
        fares = [1000000 - 997 * i for i in range(8)]
        words = Words(60, fares)
        calls = [new(60, fares)]
        for i in range(8):
            weights = [1000] * 21
            weights[i] -= 21000 - sums[i]
            words.demand(i, weights)
            calls.append(demand(i, weights))
        kept = words.protections()
        got = ask(*calls, value(7, 60), marginal(7, 60), value(3, 31), protections(), mean(kept))
        self.assertEqual(got[9], as_answer(words.worth(7, 60)))
        self.assertEqual(got[10], as_answer(words.seat(7, 60)))
        self.assertEqual(got[11], as_answer(words.worth(3, 31)))
        self.assertEqual(got[12], [0] + kept)
        self.assertEqual(got[13], got[9])
        self.assertGreater(got[9][1], 10 ** 41)
        self.assertGreater(got[9][2], 10 ** 34)


if __name__ == "__main__":
    unittest.main()
