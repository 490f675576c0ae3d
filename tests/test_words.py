"""Many plans, answered by the document's words written down once more, with Python's fractions.

Nothing here draws on the program's own functions but `answers`.
"""

import itertools
import random
import unittest
from fractions import Fraction

from tests.helper import (
    accept, ask, asked, chance, clear, decide, demand, known, marginal, mean, meanknown, new, observe, period, play,
    protections, requests, shown, spanvalue, value,
)


class Words:
    """A plan as the words tell it."""

    def __init__(self, seats, fares):
        self.seats = seats
        self.fares = fares
        self.weights = [{0: 1} for fare in fares]
        self.periods = []
        self.found = {}
        self.spans = {}

    def demand(self, i, weights):
        self.weights[i] = dict(enumerate(weights))
        self.found = {}

    def observe(self, i, d):
        self.found = {}
        self.weights[i][d] = self.weights[i].get(d, 0) + 1
        return sum(self.weights[i].values())

    def chance(self, i, d):
        return Fraction(self.weights[i].get(d, 0), sum(self.weights[i].values()))

    def worth(self, i, x):
        if i == -1:
            return Fraction(0)
        if (i, x) not in self.found:
            self.found[i, x] = sum(
                self.chance(i, d) * max(u * self.fares[i] + self.worth(i - 1, x - u) for u in range(min(d, x) + 1))
                for d in self.weights[i]
            )
        return self.found[i, x]

    def seat(self, i, x):
        return self.worth(i, x) - self.worth(i, x - 1)

    def protections(self):
        return [
            max([y for y in range(1, self.seats + 1) if self.seat(i, y) > self.fares[i + 1]], default=0)
            for i in range(len(self.fares) - 1)
        ]

    def sold(self, i, x, d, kept):
        if i == 0:
            return min(d, x)
        room = x - kept[i - 1]
        return min(d, 0 if room < 0 else room)

    def day(self, asked, kept):
        left = self.seats
        sold = {}
        for i in range(len(self.fares) - 1, -1, -1):
            sold[i] = self.sold(i, left, asked[i], kept)
            left -= sold[i]
        sold = [sold[i] for i in range(len(self.fares))]
        return sold + [sum(n * fare for n, fare in zip(sold, self.fares))]

    def known(self, asked):
        left = self.seats
        sold = []
        for number in asked:
            sold.append(min(number, left))
            left -= sold[-1]
        return sold + [sum(n * fare for n, fare in zip(sold, self.fares))]

    def all_days(self):
        """Every day that may be, as what the classes ask for and the chance of it."""
        for numbers in itertools.product(*self.weights):
            likely = Fraction(1)
            for i, d in enumerate(numbers):
                likely *= self.chance(i, d)
            if likely:
                yield numbers, likely

    def mean_of_all_days(self, kept):
        return sum(likely * self.day(numbers, kept)[-1] for numbers, likely in self.all_days())

    def mean_known(self):
        return sum(likely * self.known(numbers)[-1] for numbers, likely in self.all_days())

    def chance_of_more(self, i, n):
        return sum((self.chance(i, d) for d in self.weights[i] if d >= n), Fraction(0))

    def mean_asked(self, i):
        return sum(d * self.chance(i, d) for d in self.weights[i])

    def period(self, weights):
        self.periods.append(weights)
        return len(self.periods)

    def clear(self):
        self.periods = []
        self.spans = {}

    def span(self, t, x):
        if t == 0 or x == 0:
            return Fraction(0)
        if (t, x) not in self.spans:
            weights = self.periods[t - 1]
            stay = self.span(t - 1, x)
            brought = [max(fare + self.span(t - 1, x - 1), stay) for fare in self.fares] + [stay]
            self.spans[t, x] = sum(Fraction(w, sum(weights)) * b for w, b in zip(weights, brought, strict=True))
        return self.spans[t, x]

    def taken(self, i, t, x):
        return x >= 1 and not self.fares[i] < self.span(t - 1, x) - self.span(t - 1, x - 1)

    def accept(self, t, x):
        return sum(self.taken(i, t, x) for i in range(len(self.fares)))

    def requests(self, x, wanted):
        sold = []
        revenue = 0
        for number, request in enumerate(wanted):
            t = len(self.periods) - number
            if request != len(self.fares) and self.taken(request, t, x):
                sold.append(1)
                x -= 1
                revenue += self.fares[request]
            else:
                sold.append(0)
        return sold + [revenue]

    def shown(self):
        return [self.seats, len(self.fares), len(self.periods)] + self.fares


def as_answer(fraction):
    return [0, Fraction(fraction).numerator, Fraction(fraction).denominator]


def random_weights(rng, longest):
    top = rng.choice([1, 3, 1000])
    weights = [rng.choice([0, rng.randint(0, top)]) for d in range(rng.randint(1, longest))]
    weights[rng.randrange(len(weights))] = rng.randint(1, top)
    return weights


def random_period(rng, classes):
    top = rng.choice([1, 3, 1000])
    weights = [rng.choice([0, rng.randint(0, top)]) for place in range(classes + 1)]
    weights[rng.randrange(classes + 1)] = rng.randint(1, top)
    return weights


def random_plan(rng, most_seats, most_classes, longest):
    """The plan in words, and the calls that make it."""
    seats = rng.randint(0, most_seats)
    classes = rng.randint(1, most_classes)
    fares = sorted(rng.sample(range(1, rng.choice([12, 200, 1000001])), classes), reverse=True)
    words = Words(seats, fares)
    calls = [new(seats, fares)]
    for i in range(classes):
        if rng.randrange(5):
            weights = random_weights(rng, longest)
            words.demand(i, weights)
            calls.append(demand(i, weights))
    return words, calls


class SmallPlans(unittest.TestCase):
    def check(self, words, calls, rng):
        looks = []
        due = []
        classes = len(words.fares)
        for i in range(classes):
            for x in range(words.seats + 1):
                looks.append(value(i, x))
                due.append(as_answer(words.worth(i, x)))
                if x > 0:
                    looks.append(marginal(i, x))
                    due.append(as_answer(words.seat(i, x)))
        kept = words.protections()
        looks.append(protections())
        due.append([0] + kept)
        for turn in range(4):
            i = rng.randrange(classes)
            x = rng.randint(0, words.seats)
            n = rng.randint(0, 9)
            looks.append(decide(i, x, n))
            due.append([0, words.sold(i, x, n, kept)])
            wanted = [rng.randint(0, words.seats + 2) for fare in words.fares]
            looks.append(play(wanted))
            due.append([0] + words.day(wanted, kept))
            looks.append(known(wanted))
            due.append([0] + words.known(wanted))
            looks.append(chance(i, n))
            due.append(as_answer(words.chance_of_more(i, n)))
            looks.append(asked(i))
            due.append(as_answer(words.mean_asked(i)))
            numbers = [rng.randint(0, words.seats + 2) for fare in words.fares[1:]]
            looks.append(mean(numbers))
            due.append(as_answer(words.mean_of_all_days(numbers)))
        # Keeping the protections earns just what the seats are worth.
        looks.append(mean(kept))
        due.append(as_answer(words.worth(classes - 1, words.seats)))
        looks.append(meanknown())
        due.append(as_answer(words.mean_known()))
        got = ask(*calls, *looks)
        for look, part, right in zip(looks, got[len(calls):], due):
            self.assertEqual(part, right, (calls, look))

    def test_small_plans(self):
        rng = random.Random(1)
        for turn in range(250):
            words, calls = random_plan(rng, 6, 4, 5)
            self.check(words, calls, rng)

    def test_small_plans_with_few_fares(self):
        # Small fares and weights: a seat's worth is often just equal to the next fare.
        rng = random.Random(2)
        equal = 0
        for turn in range(250):
            fares = sorted(rng.sample(range(1, 7), 3), reverse=True)
            words = Words(5, fares)
            calls = [new(5, fares)]
            for i in range(3):
                weights = [1] + [rng.randint(0, 1) for d in range(rng.randint(0, 4))]
                words.demand(i, weights)
                calls.append(demand(i, weights))
            for i in range(2):
                equal += any(words.seat(i, y) == fares[i + 1] for y in range(1, 6))
            self.check(words, calls, rng)
        self.assertGreater(equal, 50)


class ObservedPlans(unittest.TestCase):
    def test_observed(self):
        rng = random.Random(3)
        for turn in range(60):
            words, calls = random_plan(rng, 6, 4, 5)
            due = [[0]] * len(calls)
            for step in range(12):
                i = rng.randrange(len(words.fares))
                d = rng.randint(0, 20)
                calls.append(observe(i, d))
                if words.weights[i].get(d, 0) == 1000:
                    due.append([-6])
                else:
                    due.append([0, words.observe(i, d)])
                look = rng.randrange(len(words.fares))
                calls.append(value(look, words.seats))
                due.append(as_answer(words.worth(look, words.seats)))
                calls.append(protections())
                due.append([0] + words.protections())
            self.assertEqual(ask(*calls), due)


class SpannedPlans(unittest.TestCase):
    def looks(self, words, rng):
        """Calls about the periods, and what they are to answer."""
        most = len(words.periods)
        pairs = [(shown(), [0] + words.shown())]
        for t in range(most + 1):
            for x in range(words.seats + 1):
                pairs.append((spanvalue(t, x), as_answer(words.span(t, x))))
                if t > 0:
                    pairs.append((accept(t, x), [0, words.accept(t, x)]))
        for turn in range(6):
            x = rng.randint(0, words.seats)
            wanted = [rng.randint(0, len(words.fares)) for t in range(most)]
            pairs.append((requests(x, wanted), [0] + words.requests(x, wanted)))
        return pairs

    def check(self, words, calls, rng):
        pairs = self.looks(words, rng)
        got = ask(*calls, *[look for look, due in pairs])
        for (look, due), part in zip(pairs, got[len(calls):], strict=True):
            self.assertEqual(part, due, (calls, look))

    def test_small_plans(self):
        rng = random.Random(4)
        refused = 0
        for turn in range(250):
            words, calls = random_plan(rng, 5, 4, 2)
            for step in range(rng.randint(0, 6)):
                weights = random_period(rng, len(words.fares))
                words.period(weights)
                calls.append(period(weights))
            refused += words.accept(len(words.periods), 1) < len(words.fares) if words.periods else 0
            self.check(words, calls, rng)
        self.assertGreater(refused, 80)

    def test_small_fares_and_weights(self):
        # A fare is then often just equal to what a seat is worth later.
        rng = random.Random(5)
        equal = 0
        for turn in range(250):
            fares = sorted(rng.sample(range(1, 9), 3), reverse=True)
            words = Words(3, fares)
            calls = [new(3, fares)]
            for step in range(rng.randint(1, 4)):
                weights = [rng.randint(0, 1) for fare in fares] + [1]
                words.period(weights)
                calls.append(period(weights))
            for t in range(len(words.periods)):
                equal += any(words.span(t, x) - words.span(t, x - 1) in fares for x in range(1, 4))
            self.check(words, calls, rng)
        self.assertGreater(equal, 40)

    def test_cleared_and_added_again(self):
        rng = random.Random(6)
        for turn in range(60):
            words, calls = random_plan(rng, 3, 3, 2)
            due = [[0]] * len(calls)
            for step in range(8):
                if rng.randrange(4) == 0:
                    words.clear()
                    calls.append(clear())
                    due.append([0])
                else:
                    weights = random_period(rng, len(words.fares))
                    calls.append(period(weights))
                    due.append([0, words.period(weights)])
                t = len(words.periods)
                wanted = [rng.randint(0, len(words.fares)) for step in range(t)]
                calls.append(spanvalue(t, words.seats))
                due.append(as_answer(words.span(t, words.seats)))
                calls.append(requests(words.seats, wanted))
                due.append([0] + words.requests(words.seats, wanted))
            self.assertEqual(ask(*calls), due)


class LargePlans(unittest.TestCase):
    def test_the_largest(self):
        # The sums of the weights are primes and the fares lie close, so that each class
        # sells something and what is below the line stays great.
        sums = [20983, 20981, 20963, 20959, 20947, 20939, 20929, 20921]
        fares = [1000000 - 997 * i for i in range(8)]
        words = Words(60, fares)
        calls = [new(60, fares)]
        for i in range(8):
            weights = [1000] * 21
            weights[i] -= 21000 - sums[i]
            words.demand(i, weights)
            calls.append(demand(i, weights))
        kept = words.protections()
        got = ask(*calls, value(7, 60), marginal(7, 60), value(3, 31), protections(), mean(kept))
        self.assertEqual(got[9], as_answer(words.worth(7, 60)))
        self.assertEqual(got[10], as_answer(words.seat(7, 60)))
        self.assertEqual(got[11], as_answer(words.worth(3, 31)))
        self.assertEqual(got[12], [0] + kept)
        self.assertEqual(got[13], got[9])
        self.assertGreater(got[9][1], 10 ** 41)
        self.assertGreater(got[9][2], 10 ** 34)

    def test_the_longest_span(self):
        # The sums of the weights are unlike primes, as above.
        rng = random.Random(7)
        sums = [
            8999, 8971, 8969, 8963, 8951, 8941, 8933, 8929, 8923, 8893,
            8887, 8867, 8863, 8861, 8849, 8839, 8837, 8831, 8821, 8819,
        ]
        fares = [1000000, 700001, 500009, 300007, 200003, 100003, 50021, 1]
        words = Words(60, fares)
        calls = [new(60, fares)]
        for t in range(20):
            weights = [1000] * 9
            weights[t * 4 % 9] = sums[t] - 8000
            words.period(weights)
            calls.append(period(weights))
        wanted = [rng.randint(0, 8) for t in range(20)]
        for x in (1, 2, 5, 9, 14, 20, 60):
            got = ask(*calls, spanvalue(20, x), accept(20, x), accept(13, x), requests(x, wanted))
            self.assertEqual(got[21], as_answer(words.span(20, x)))
            self.assertEqual(got[22:24], [[0, words.accept(20, x)], [0, words.accept(13, x)]])
            self.assertEqual(got[24], [0] + words.requests(x, wanted))
            self.assertGreater(got[21][1], 10 ** 80)
            self.assertGreater(got[21][2], 10 ** 75)


if __name__ == "__main__":
    unittest.main()
