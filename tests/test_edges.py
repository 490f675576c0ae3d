"""The edges that the document names; the due answers are worked out by hand.

Those of the periods stand in test_periods.
"""

import math
import unittest
from fractions import Fraction

from tests.helper import (
    ask, ask_last, asked, chance, decide, demand, known, marginal, mean, meanknown, new, observe, play, protections,
    value,
)


class JustEqual(unittest.TestCase):
    def test_a_seat_worth_just_the_next_fare_is_not_kept(self):
        # The first seat is worth 100 * 1/2 = 50 to class 0.
        for fare, kept in ((49, 1), (50, 0), (51, 0)):
            got = ask(new(5, [100, fare]), demand(0, [1, 1]), marginal(0, 1), protections())
            self.assertEqual(got[2:], [[0, 50, 1], [0, kept]], fare)

    def test_the_second_seat_just_equal(self):
        # The seats are worth 90 * 2/3 = 60, 90 * 1/3 = 30, 0.
        for fare, kept in ((29, 2), (30, 1), (31, 1), (59, 1), (60, 0), (61, 0)):
            plan = [new(5, [90, fare]), demand(0, [1, 1, 1])]
            self.assertEqual(ask_last(*plan, protections()), [0, kept], fare)
            self.assertEqual(ask_last(*plan, decide(1, 5, 60)), [0, 5 - kept], fare)
            self.assertEqual(ask_last(*plan, play([0, 60])), [0, 0, 5 - kept, (5 - kept) * fare], fare)

    def test_just_above_by_the_least(self):
        # 1000000 * 999 / 1000 = 999000 is just the fare; 1000 more in 1000 parts is above.
        self.assertEqual(ask_last(new(1, [1000000, 999000]), demand(0, [1, 999]), protections()), [0, 0])
        self.assertEqual(ask_last(new(1, [1000000, 999000]), demand(0, [0, 999]), protections()), [0, 1])
        # 7 * 143/1001 = 1 is just the fare; 7 * 144/1002 is 6/1002 above.
        just = [new(1, [7, 1]), demand(0, [858, 143])]
        self.assertEqual(ask_last(*just, protections()), [0, 0])
        self.assertEqual(ask_last(*just, observe(0, 1), marginal(0, 1)), [0, 168, 167])
        self.assertEqual(ask_last(*just, observe(0, 1), protections()), [0, 1])


class OneClass(unittest.TestCase):
    PLAN = [new(4, [10]), demand(0, [1, 0, 1])]

    def test_nothing_behind_the_0_of_protections(self):
        self.assertEqual(ask_last(*self.PLAN, protections()), [0])

    def test_mean_takes_a_row_of_no_numbers(self):
        self.assertEqual(ask_last(*self.PLAN, mean([])), [0, 10, 1])

    def test_the_rest(self):
        got = ask(*self.PLAN, value(0, 1), marginal(0, 2), decide(0, 3, 60), decide(0, 4, 1), play([9]), known([3]))
        self.assertEqual(got[2:], [[0, 5, 1], [0, 5, 1], [0, 3], [0, 1], [0, 4, 40], [0, 3, 30]])


class NoSeats(unittest.TestCase):
    PLAN = [new(0, [10, 5]), demand(0, [0, 1]), demand(1, [0, 0, 1])]

    def test_worth_nothing(self):
        got = ask(*self.PLAN, value(0, 0), value(1, 0), mean([0]), mean([60]), meanknown())
        self.assertEqual(got[3:], [[0, 0, 1]] * 5)

    def test_nothing_kept_or_sold(self):
        got = ask(*self.PLAN, protections(), decide(0, 0, 60), decide(1, 0, 60), play([60, 60]), known([60, 60]))
        self.assertEqual(got[3:], [[0, 0], [0, 0], [0, 0], [0, 0, 0, 0], [0, 0, 0, 0]])

    def test_the_first_seat_is_not_there(self):
        self.assertEqual(ask_last(*self.PLAN, marginal(1, 1)), [-8])

    def test_0_seats_left_of_some(self):
        plan = [new(5, [10, 5]), demand(0, [0, 1]), demand(1, [0, 0, 1])]
        got = ask(*plan, value(1, 0), decide(0, 0, 60), decide(1, 0, 60))
        self.assertEqual(got[3:], [[0, 0, 1], [0, 0], [0, 0]])


class AskingForNothing(unittest.TestCase):
    def test_a_class_with_the_one_weight_for_0_seats(self):
        # Class 1 asks for nothing: the seats are worth to it and class 0 what they are to class 0.
        plan = [new(3, [10, 8, 2]), demand(0, [1, 3]), demand(2, [0, 1])]
        got = ask(*plan, value(0, 3), value(1, 3), value(2, 3), value(2, 1), protections(), mean([1, 1]))
        self.assertEqual(got[3:], [[0, 15, 2], [0, 15, 2], [0, 19, 2], [0, 15, 2], [0, 0, 1], [0, 19, 2]])

    def test_no_weights_given_at_all(self):
        got = ask(new(60, [3, 2, 1]), value(2, 60), marginal(2, 60), protections(), mean([0, 0]), play([1, 2, 3]))
        self.assertEqual(got[1:], [[0, 0, 1], [0, 0, 1], [0, 0, 0], [0, 0, 1], [0, 1, 2, 3, 10]])

    def test_meanknown_chance_and_asked(self):
        got = ask(new(60, [3, 2]), meanknown(), chance(0, 0), chance(0, 1), chance(0, 60), asked(0), asked(1))
        self.assertEqual(got[1:], [[0, 0, 1], [0, 1, 1], [0, 0, 1], [0, 0, 1], [0, 0, 1], [0, 0, 1]])

    def test_meanknown_with_one_class_that_asks(self):
        # Class 1 alone asks, for 1 or 3 seats with 1/2 each.
        for seats, due in ((0, 0), (1, 8), (2, 12), (3, 16), (60, 16)):
            plan = [new(seats, [10, 8, 2]), demand(1, [0, 1, 0, 1])]
            self.assertEqual(ask_last(*plan, meanknown()), [0, due, 1], seats)
            self.assertEqual(ask_last(*plan, asked(1)), [0, 2, 1], seats)
            self.assertEqual(ask_last(*plan, asked(0)), [0, 0, 1], seats)

    def test_more_asked_than_there_are_weights_for(self):
        got = ask(new(60, [3]), demand(0, [1, 1]), play([60]), known([60]), decide(0, 60, 60))
        self.assertEqual(got[2:], [[0, 60, 180], [0, 60, 180], [0, 60]])


class ChanceAtTheWeights(unittest.TestCase):
    PLAN = [new(9, [10]), demand(0, [2, 0, 3, 1])]

    def test_from_0_to_beyond_the_last_weight(self):
        due = {0: (1, 1), 1: (2, 3), 2: (2, 3), 3: (1, 6), 4: (0, 1), 5: (0, 1), 20: (0, 1), 60: (0, 1)}
        for n in due:
            self.assertEqual(ask_last(*self.PLAN, chance(0, n)), [0, *due[n]], n)

    def test_a_last_weight_of_0(self):
        got = ask(new(9, [10]), demand(0, [0, 5, 0]), chance(0, 0), chance(0, 1), chance(0, 2), chance(0, 3), asked(0))
        self.assertEqual(got[2:], [[0, 1, 1], [0, 1, 1], [0, 0, 1], [0, 0, 1], [0, 1, 1]])

    def test_the_last_of_21_weights(self):
        got = ask(new(9, [10]), demand(0, [1000] * 21), chance(0, 20), chance(0, 21), chance(0, 1), asked(0))
        self.assertEqual(got[2:], [[0, 1, 21], [0, 0, 1], [0, 20, 21], [0, 10, 1]])

    def test_a_weight_that_observe_brought(self):
        got = ask(new(9, [10]), observe(0, 20), chance(0, 1), chance(0, 20), chance(0, 21), asked(0))
        self.assertEqual(got[2:], [[0, 1, 2], [0, 1, 2], [0, 0, 1], [0, 10, 1]])


class ObserveBeyond(unittest.TestCase):
    def test_weights_between_are_0(self):
        # Weights 1, 0, 0, 0, 1: the mean asked is 2.
        got = ask(new(20, [10]), observe(0, 4), value(0, 20), observe(0, 2), value(0, 20), observe(0, 4))
        self.assertEqual(got[1:], [[0, 2], [0, 20, 1], [0, 3], [0, 20, 1], [0, 4]])

    def test_just_behind_the_last(self):
        got = ask(new(20, [10]), demand(0, [2, 2]), observe(0, 2), value(0, 20))
        self.assertEqual(got[2:], [[0, 5], [0, 8, 1]])

    def test_the_last_place_of_all(self):
        got = ask(new(60, [21]), observe(0, 20), value(0, 60), observe(0, 20), value(0, 60))
        self.assertEqual(got[1:], [[0, 2], [0, 210, 1], [0, 3], [0, 280, 1]])

    def test_other_classes_have_rows_of_their_own(self):
        got = ask(new(60, [3, 2, 1]), observe(1, 3), observe(0, 0), observe(2, 0), observe(1, 1), value(0, 60))
        self.assertEqual(got[1:], [[0, 2], [0, 2], [0, 2], [0, 3], [0, 0, 1]])


class ObserveFull(unittest.TestCase):
    def test_at_1000_refused_and_unchanged(self):
        got = ask(new(9, [10]), demand(0, [1000, 1000]), observe(0, 1), observe(0, 0), value(0, 9), observe(0, 2))
        self.assertEqual(got[2:], [[-6], [-6], [0, 5, 1], [0, 2001]])

    def test_from_999_just_once(self):
        got = ask(new(9, [10]), demand(0, [0, 999]), observe(0, 1), observe(0, 1), value(0, 1), observe(0, 0))
        self.assertEqual(got[2:], [[0, 1000], [-6], [0, 10, 1], [0, 1001]])

    def test_another_weight_at_1000_is_no_matter(self):
        self.assertEqual(ask_last(new(9, [10]), demand(0, [1000, 5]), observe(0, 1)), [0, 1006])

    def test_the_same_weight_of_another_class_is_no_matter(self):
        self.assertEqual(ask_last(new(9, [10, 9]), demand(0, [1000]), observe(1, 0)), [0, 2])


class Fractions(unittest.TestCase):
    def test_lowest_terms(self):
        got = ask(new(9, [6]), demand(0, [500, 1000]), value(0, 9), demand(0, [9, 3]), value(0, 9))
        self.assertEqual([got[2], got[4]], [[0, 4, 1], [0, 3, 2]])

    def test_lowest_terms_over_several_classes(self):
        # 1/2 and 1/2 of fares 3 and 1, enough seats: 3/2 + 1/2 = 2.
        got = ask(new(9, [3, 1]), demand(0, [7, 7]), demand(1, [9, 9]), value(1, 9), mean([0]), mean([1]))
        self.assertEqual(got[3:], [[0, 2, 1]] * 3)

    def test_0_is_0_and_1(self):
        got = ask(new(9, [3, 1]), demand(0, [7, 7]), value(0, 0), marginal(0, 2), marginal(1, 9), mean([0]))
        self.assertEqual(got[2:5], [[0, 0, 1]] * 3)
        self.assertEqual(got[5], [0, 3, 2])

    def test_0_of_a_demand_of_many_weights(self):
        self.assertEqual(ask_last(new(9, [3]), demand(0, [1000, 0, 0, 0]), value(0, 9)), [0, 0, 1])

    def test_many_digits_where_seats_are_never_short(self):
        # At most 7 seats each are asked for, 56 of 60: all is sold, so the fares times the means
        # asked for are earned. The sums of the weights have no common divisor.
        sums = [7993, 7963, 7951, 7949, 7937, 7933, 7927, 7919]
        fares = [1000000 - 7 * i for i in range(8)]
        calls = [new(60, fares)]
        due = Fraction(0)
        for i in range(8):
            short = 8000 - sums[i]
            weights = [1000 - short] + [1000] * 7
            self.assertEqual(sum(weights), sums[i])
            calls.append(demand(i, weights))
            due += Fraction(fares[i] * 28000, sums[i])
        self.assertEqual(due.denominator, math.prod(sums))
        self.assertGreater(due.denominator, 10 ** 31)
        answer = [0, due.numerator, due.denominator]
        got = ask(*calls, value(7, 60), mean([0] * 7), meanknown(), asked(0))
        self.assertEqual(got[-4:], [answer, answer, answer, [0, 28000, 7993]])


class FewerLeftThanKept(unittest.TestCase):
    # Class 0 asks for 4 for sure, so 4 are kept from class 1 and from class 2.
    PLAN = [new(6, [10, 4, 1]), demand(0, [0, 0, 0, 0, 1])]

    def test_decide(self):
        self.assertEqual(ask_last(*self.PLAN, protections()), [0, 4, 4])
        for x, sold in ((0, 0), (1, 0), (3, 0), (4, 0), (5, 1), (6, 2)):
            for i in (1, 2):
                self.assertEqual(ask_last(*self.PLAN, decide(i, x, 60)), [0, sold], (i, x))
            self.assertEqual(ask_last(*self.PLAN, decide(0, x, 60)), [0, x], x)

    def test_play(self):
        got = ask(*self.PLAN, play([60, 60, 60]), play([60, 60, 1]), play([1, 60, 0]))
        self.assertEqual(got[2:], [[0, 4, 0, 2, 42], [0, 4, 1, 1, 45], [0, 1, 2, 0, 18]])

    def test_mean(self):
        # Classes 1 and 2 ask for 3 each; 5 are kept from class 1, none from class 2.
        plan = self.PLAN + [demand(1, [0, 0, 0, 1]), demand(2, [0, 0, 0, 1])]
        self.assertEqual(ask_last(*plan, mean([5, 0])), [0, 33, 1])
        self.assertEqual(ask_last(*plan, mean([60, 60])), [0, 40, 1])


if __name__ == "__main__":
    unittest.main()
