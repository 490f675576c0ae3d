"""Promises 13 to 17 on ordinary inputs and at their edges; the due answers are worked out by hand.

The plan that most tests share, SPAN: 3 seats, fares 100 and 60, and three periods.
The first of the list (it comes last): class 0 with 3/4, nobody with 1/4.
  V(1, x) = 75 for x of 1 or more.
The second: class 0 and class 1 with 1/4 each, nobody with 1/2.
  V(2, 1): 100, max(60, 75) = 75 and 75 twice, in the mean 325/4.
  V(2, x) for x of 2 or more: 100 + 75, 60 + 75 and 75 twice, in the mean 115.
The third (it comes first): class 1 for sure.
  V(3, 1) = max(60, 325/4) = 325/4.
  V(3, 2) = max(60 + 325/4, 115) = 565/4.
  V(3, 3) = max(60 + 115, 115) = 175.
What a seat brings later, and so what a fare must not be below:
  1 to go: 0. 2 to go: 75 for the last seat, 0 for others.
  3 to go: 325/4 for the last seat, 115 - 325/4 = 135/4 for the last but one, 0 for others.
"""

import math
import unittest
from fractions import Fraction

from tests.helper import (
    accept, ask, ask_last, asked, clear, demand, new, observe, period, play, protections, requests, shown, spanvalue,
    value,
)

MAKE = new(3, [100, 60])
FIRST = period([3, 0, 1])
SECOND = period([1, 1, 2])
THIRD = period([0, 1, 0])
SPAN = [MAKE, FIRST, SECOND, THIRD]


class Period(unittest.TestCase):
    def test_answers_how_many_there_are_then(self):
        self.assertEqual(ask(*SPAN, FIRST), [[0], [0, 1], [0, 2], [0, 3], [0, 4]])

    def test_added_at_the_lists_end(self):
        # What is worth with fewer periods to go stays as it was: the new one lies before all others.
        got = ask(MAKE, FIRST, spanvalue(1, 1), SECOND, spanvalue(1, 1), spanvalue(2, 1), THIRD, spanvalue(1, 1),
                  spanvalue(2, 1), spanvalue(3, 1))
        self.assertEqual([got[2], got[4], got[7]], [[0, 75, 1]] * 3)
        self.assertEqual([got[5], got[8], got[9]], [[0, 325, 4]] * 3)

    def test_the_last_weight_is_for_nobody(self):
        got = ask(new(1, [9, 5]), period([0, 0, 7]), spanvalue(1, 1), period([0, 7, 0]), spanvalue(2, 1))
        self.assertEqual([got[2], got[4]], [[0, 0, 1], [0, 5, 1]])

    def test_each_class_by_its_own_weight(self):
        plan = new(1, [700, 70, 7])
        for weights, due in (([1, 0, 0, 6], 100), ([0, 1, 0, 6], 10), ([0, 0, 1, 6], 1), ([1, 1, 1, 4], 111)):
            self.assertEqual(ask_last(plan, period(weights), spanvalue(1, 1)), [0, due, 1], weights)

    def test_the_same_weights_twice_are_two_periods(self):
        # 1/2 of 8 in each of the two: both are sold if there are two seats.
        got = ask(new(2, [8]), period([1, 1]), period([1, 1]), spanvalue(2, 1), spanvalue(2, 2))
        self.assertEqual(got[1:], [[0, 1], [0, 2], [0, 6, 1], [0, 8, 1]])

    def test_the_classes_weights_are_no_matter(self):
        got = ask(*SPAN, demand(0, [1, 1, 2]), observe(1, 3), spanvalue(3, 2), value(0, 1), asked(1))
        self.assertEqual(got[6:], [[0, 565, 4], [0, 75, 1], [0, 3, 2]])

    def test_periods_are_no_matter_to_the_other_calls(self):
        got = ask(*SPAN, demand(0, [1, 1, 2]), protections(), play([60, 60]), value(1, 3))
        self.assertEqual(got[5:], [[0, 1], [0, 1, 2, 220], [0, 125, 1]])


class TwentyPeriods(unittest.TestCase):
    PLAN = [new(60, [5])] + [period([1, 0])] * 20

    def test_the_20th_and_the_21st(self):
        got = ask(*self.PLAN, period([1, 0]), shown(), period([1, 0]), spanvalue(20, 60))
        self.assertEqual(got[1:], [[0, t] for t in range(1, 21)] + [[-6], [0, 60, 1, 20, 5], [-6], [0, 100, 1]])

    def test_the_21st_again_after_clear(self):
        got = ask(*self.PLAN, clear(), period([1, 1]), shown(), spanvalue(1, 1))
        self.assertEqual(got[21:], [[0], [0, 1], [0, 60, 1, 1, 5], [0, 5, 2]])

    def test_all_20_come(self):
        got = ask(*self.PLAN, requests(60, [0] * 20), requests(7, [0] * 20), requests(60, [1, 0] * 10))
        self.assertEqual(got[21], [0] + [1] * 20 + [100])
        self.assertEqual(got[22], [0] + [1] * 7 + [0] * 13 + [35])
        self.assertEqual(got[23], [0] + [0, 1] * 10 + [50])


class SpanValue(unittest.TestCase):
    def test_span(self):
        due = [
            [(0, 1), (0, 1), (0, 1), (0, 1)],
            [(0, 1), (75, 1), (75, 1), (75, 1)],
            [(0, 1), (325, 4), (115, 1), (115, 1)],
            [(0, 1), (325, 4), (565, 4), (175, 1)],
        ]
        for t in range(4):
            for x in range(4):
                self.assertEqual(ask_last(*SPAN, spanvalue(t, x)), [0, *due[t][x]], (t, x))

    def test_the_other_way_round(self):
        # V(1, 1) = 60; V(2, 1) = (100 + 60 + 60 + 60) / 4 = 70; V(3, 1) = (300 + 70) / 4.
        got = ask(MAKE, THIRD, SECOND, FIRST, spanvalue(1, 1), spanvalue(2, 1), spanvalue(3, 1))
        self.assertEqual(got[4:], [[0, 60, 1], [0, 70, 1], [0, 185, 2]])

    def test_0_periods_to_go(self):
        for x in range(4):
            self.assertEqual(ask_last(*SPAN, spanvalue(0, x)), [0, 0, 1], x)
            self.assertEqual(ask_last(MAKE, spanvalue(0, x)), [0, 0, 1], x)

    def test_0_seats(self):
        for t in range(4):
            self.assertEqual(ask_last(*SPAN, spanvalue(t, 0)), [0, 0, 1], t)
        self.assertEqual(ask_last(new(0, [9]), period([1, 0]), spanvalue(1, 0)), [0, 0, 1])

    def test_nobody_comes(self):
        got = ask(MAKE, period([0, 0, 1000]), FIRST, period([0, 0, 1]), spanvalue(1, 3), spanvalue(3, 1))
        self.assertEqual(got[4:], [[0, 0, 1], [0, 75, 1]])

    def test_lowest_terms(self):
        got = ask(new(3, [6]), period([500, 1000]), spanvalue(1, 1), period([10, 10]), spanvalue(2, 2))
        self.assertEqual([got[2], got[4]], [[0, 2, 1], [0, 5, 1]])

    def test_eighty_digits_where_seats_are_never_short(self):
        # 20 seats are asked for at most, of 60: every class is always taken, so each period brings
        # the mean of its fares. The sums of the weights are unlike primes.
        sums = [
            8999, 8971, 8969, 8963, 8951, 8941, 8933, 8929, 8923, 8893,
            8887, 8867, 8863, 8861, 8849, 8839, 8837, 8831, 8821, 8819,
        ]
        fares = [1000000 - 7 * i for i in range(8)]
        calls = [new(60, fares)]
        due = Fraction(0)
        for t in range(20):
            weights = [1000] * 8 + [sums[t] - 8000]
            calls.append(period(weights))
            due += Fraction(1000 * sum(fares), sums[t])
        self.assertEqual(due.denominator, math.prod(sums))
        self.assertEqual(len(str(due.denominator)), 79)
        self.assertEqual(len(str(due.numerator)), 87)
        self.assertEqual(ask_last(*calls, spanvalue(20, 60)), [0, due.numerator, due.denominator])
        self.assertEqual(ask_last(*calls, spanvalue(20, 20)), [0, due.numerator, due.denominator])
        self.assertEqual(ask_last(*calls, accept(20, 60)), [0, 8])


class Accept(unittest.TestCase):
    def test_span(self):
        due = {1: [0, 2, 2, 2], 2: [0, 1, 2, 2], 3: [0, 1, 2, 2]}
        for t in due:
            for x in range(4):
                self.assertEqual(ask_last(*SPAN, accept(t, x)), [0, due[t][x]], (t, x))

    def test_the_period_that_comes_now_is_no_matter(self):
        for weights in ([0, 0, 1], [1, 0, 0], [0, 1000, 1]):
            self.assertEqual(ask_last(MAKE, FIRST, period(weights), accept(2, 1)), [0, 1], weights)

    def test_just_equal_is_taken(self):
        # The seat is worth 100 * 1/2 = 50 later.
        for fare, taken in ((49, 1), (50, 2), (51, 2)):
            plan = [new(5, [100, fare]), period([1, 0, 1]), period([0, 1, 0])]
            self.assertEqual(ask_last(*plan, spanvalue(1, 1)), [0, 50, 1])
            self.assertEqual(ask_last(*plan, accept(2, 1)), [0, taken], fare)

    def test_just_equal_at_the_last_seat_but_one(self):
        # Two periods of 1/2 at 80: V(2, 1) = 60, V(2, 2) = 80. A second seat is worth 20 later.
        for fare, taken in ((19, 1), (20, 2), (21, 2), (60, 2)):
            plan = [new(5, [80, fare]), period([1, 0, 1]), period([1, 0, 1]), period([0, 1, 0])]
            got = ask(*plan, spanvalue(2, 1), spanvalue(2, 2), accept(3, 2), accept(3, 1), accept(3, 3))
            self.assertEqual(got[4:], [[0, 60, 1], [0, 80, 1], [0, taken], [0, 1 + (fare == 60)], [0, 2]], fare)

    def test_a_small_part_below_is_not_taken(self):
        # 1000000 * 999/1000 = 999000 is just the fare; with 1000000 * 999/999 it is below.
        for nobody, taken in ((1, 2), (0, 1), (2, 2)):
            plan = [new(1, [1000000, 999000]), period([999, 0, nobody]), period([1, 1, 1])]
            self.assertEqual(ask_last(*plan, accept(2, 1)), [0, taken], nobody)

    def test_some_of_many_classes(self):
        # The seat is worth 35 later.
        plan = [new(2, [70, 60, 50, 35, 34, 20, 10, 1]), period([1, 0, 0, 0, 0, 0, 0, 0, 1]), period([1] * 9)]
        got = ask(*plan, accept(1, 1), accept(2, 1), accept(2, 2), accept(2, 0))
        self.assertEqual(got[3:], [[0, 8], [0, 4], [0, 8], [0, 0]])

    def test_0_seats_left(self):
        for t in (1, 2, 3):
            self.assertEqual(ask_last(*SPAN, accept(t, 0)), [0, 0], t)
        self.assertEqual(ask_last(new(0, [9]), period([1, 0]), accept(1, 0)), [0, 0])


class Requests(unittest.TestCase):
    def test_span(self):
        due = {
            (1, (1, 1, 0)): [0, 0, 1, 100],
            (2, (1, 1, 0)): [1, 0, 1, 160],
            (3, (1, 1, 0)): [1, 1, 1, 220],
            (3, (1, 1, 1)): [1, 1, 1, 180],
            (2, (1, 1, 1)): [1, 0, 1, 120],
            (1, (1, 1, 1)): [0, 0, 1, 60],
            (1, (0, 0, 0)): [1, 0, 0, 100],
            (2, (0, 0, 0)): [1, 1, 0, 200],
            (1, (1, 0, 0)): [0, 1, 0, 100],
            (1, (2, 1, 1)): [0, 0, 1, 60],
            (2, (2, 1, 1)): [0, 1, 1, 120],
            (3, (2, 2, 2)): [0, 0, 0, 0],
            (0, (0, 0, 0)): [0, 0, 0, 0],
            (0, (0, 1, 2)): [0, 0, 0, 0],
        }
        for x, wanted in due:
            self.assertEqual(ask_last(*SPAN, requests(x, wanted)), [0] + due[x, wanted], (x, wanted))

    def test_the_first_of_the_row_is_in_the_lists_last_period(self):
        # The list's first period brings 100 for sure, its second nobody: only with 2 to go is
        # there more to come. The other way round there is nothing to wait for but nobody.
        later = [new(1, [100, 60]), period([1, 0, 0]), period([0, 0, 1])]
        self.assertEqual(ask_last(*later, requests(1, [1, 0])), [0, 0, 1, 100])
        self.assertEqual(ask_last(*later, requests(1, [1, 1])), [0, 0, 1, 60])
        before = [new(1, [100, 60]), period([0, 0, 1]), period([1, 0, 0])]
        self.assertEqual(ask_last(*before, requests(1, [1, 0])), [0, 1, 0, 60])

    def test_what_comes_need_not_be_likely(self):
        # The third period brings class 1 for sure; what is asked for in the row counts nevertheless.
        self.assertEqual(ask_last(*SPAN, requests(3, [0, 2, 1])), [0, 1, 0, 1, 160])

    def test_just_equal_is_sold(self):
        for fare, due in ((49, [0, 1, 100]), (50, [1, 0, 50]), (51, [1, 0, 51])):
            plan = [new(5, [100, fare]), period([1, 0, 1]), period([0, 1, 0])]
            self.assertEqual(ask_last(*plan, requests(1, [1, 0])), [0] + due, fare)

    def test_seats_run_out_between_requests(self):
        plan = [new(5, [9, 8])] + [period([0, 0, 1])] * 5
        got = ask(*plan, requests(2, [1, 2, 0, 0, 1]), requests(3, [1, 2, 0, 0, 1]), requests(5, [1, 2, 0, 0, 1]))
        self.assertEqual(got[6:], [[0, 1, 0, 1, 0, 0, 17], [0, 1, 0, 1, 1, 0, 26], [0, 1, 0, 1, 1, 1, 34]])

    def test_nobody_in_a_plan_of_eight_classes(self):
        plan = [new(5, [80, 70, 60, 50, 40, 30, 20, 10]), period([1] * 9), period([1] * 9)]
        got = ask(*plan, requests(5, [8, 7]), requests(5, [7, 8]), requests(5, [8, 8]))
        self.assertEqual(got[3:], [[0, 0, 1, 10], [0, 1, 0, 10], [0, 0, 0, 0]])

    def test_an_empty_row_where_there_are_no_periods(self):
        got = ask(MAKE, requests(3, []), requests(0, []), FIRST, clear(), requests(3, []))
        self.assertEqual([got[1], got[2], got[5]], [[0, 0]] * 3)

    def test_the_plan_stays_as_it_was(self):
        got = ask(*SPAN, requests(3, [1, 1, 1]), requests(3, [1, 1, 1]), shown(), spanvalue(3, 3), accept(3, 3))
        self.assertEqual(got[4:], [[0, 1, 1, 1, 180]] * 2 + [[0, 3, 2, 3, 100, 60], [0, 175, 1], [0, 2]])


class Clear(unittest.TestCase):
    def test_answers_0_alone(self):
        self.assertEqual(ask(*SPAN, clear())[4], [0])
        self.assertEqual(ask(MAKE, clear(), clear()), [[0]] * 3)

    def test_there_are_no_periods_any_more(self):
        got = ask(*SPAN, clear(), shown(), spanvalue(1, 1), accept(1, 1), spanvalue(0, 1), requests(3, [1, 1, 0]))
        self.assertEqual(got[5:], [[0, 3, 2, 0, 100, 60], [-9], [-9], [0, 0, 1], [-7]])

    def test_periods_added_after_it(self):
        got = ask(*SPAN, clear(), THIRD, shown(), spanvalue(1, 1), FIRST, spanvalue(2, 1), spanvalue(3, 1))
        self.assertEqual(got[5:], [[0, 1], [0, 3, 2, 1, 100, 60], [0, 60, 1], [0, 2], [0, 90, 1], [-9]])

    def test_seats_fares_and_weights_stay(self):
        got = ask(*SPAN, demand(0, [1, 1, 2]), clear(), value(0, 2), asked(0), protections(), observe(0, 0))
        self.assertEqual(got[6:], [[0, 125, 1], [0, 5, 4], [0, 1], [0, 5]])


class NewPlan(unittest.TestCase):
    def test_no_periods_at_first(self):
        got = ask(MAKE, shown(), spanvalue(0, 0), spanvalue(1, 0), accept(1, 0))
        self.assertEqual(got[1:], [[0, 3, 2, 0, 100, 60], [0, 0, 1], [-9], [-9]])

    def test_no_periods_after_a_new_plan(self):
        got = ask(*SPAN, MAKE, shown(), spanvalue(1, 1), requests(3, []), FIRST, spanvalue(1, 1))
        self.assertEqual(got[5:], [[0, 3, 2, 0, 100, 60], [-9], [0, 0], [0, 1], [0, 75, 1]])

    def test_periods_of_the_new_plans_classes(self):
        got = ask(*SPAN, new(2, [9]), FIRST, period([1, 1]), spanvalue(1, 2))
        self.assertEqual(got[5:], [[-7], [0, 1], [0, 9, 2]])

    def test_a_refused_new_leaves_the_periods(self):
        got = ask(*SPAN, new(3, [60, 100]), new(61, [100, 60]), shown(), spanvalue(3, 2))
        self.assertEqual(got[4:], [[-5], [-2], [0, 3, 2, 3, 100, 60], [0, 565, 4]])


if __name__ == "__main__":
    unittest.main()
