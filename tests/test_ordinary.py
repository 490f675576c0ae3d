"""Promises 0 to 12 and 18 on ordinary inputs; the due answers are worked out by hand.

The day that most tests share, TRIP: 3 seats, fares 100, 60 and 40.
Class 0 asks for 0, 1, 2 seats with chances 1/4, 1/4, 1/2.
  U(0, 1) = 100 * 3/4 = 75; U(0, 2) = 100 * 1/4 + 200 * 1/2 = 125; U(0, 3) = 125.
  The seats' worths are 75, 50, 0; above 60 is the first: y(0) = 1.
Class 1 asks for 0 or 2 seats with chance 1/2 each.
  U(1, 1): 75 and max(75, 60) = 75, in the mean 75.
  U(1, 2): 125 and max(125, 60 + 75, 120) = 135, in the mean 130.
  U(1, 3): 125 and max(125, 60 + 125, 120 + 75) = 195, in the mean 160.
  The seats' worths are 75, 55, 30; above 40 are the first two: y(1) = 2.
Class 2 asks for 1 or 3 seats with chances 1/3 and 2/3.
  U(2, 1): max(75, 40) = 75 in both cases.
  U(2, 2): max(130, 40 + 75) = 130 and max(130, 115, 80) = 130.
  U(2, 3): max(160, 40 + 130) = 170 and max(160, 170, 80 + 75, 120) = 170.
"""

import unittest

from tests.helper import (
    ask, ask_last, asked, chance, decide, demand, known, marginal, mean, meanknown, new, observe, period, play,
    protections, shown, value,
)

TRIP = [
    new(3, [100, 60, 40]),
    demand(0, [1, 1, 2]),
    demand(1, [1, 0, 1]),
    demand(2, [0, 1, 0, 2]),
]


class New(unittest.TestCase):
    def test_answers_0_alone(self):
        self.assertEqual(ask(new(3, [100, 60, 40])), [[0]])

    def test_as_many_classes_as_fares(self):
        got = ask(new(3, [9, 8]), value(1, 0), value(2, 0))
        self.assertEqual(got, [[0], [0, 0, 1], [-4]])

    def test_seats_and_fares_are_the_plans(self):
        got = ask(new(4, [7, 5, 2]), known([1, 1, 9]))
        self.assertEqual(got[1], [0, 1, 1, 2, 7 + 5 + 4])

    def test_each_class_asks_for_nothing_at_first(self):
        got = ask(new(4, [7, 5]), value(1, 4), observe(0, 0), observe(1, 0))
        self.assertEqual(got, [[0], [0, 0, 1], [0, 2], [0, 2]])

    def test_what_was_before_is_gone(self):
        got = ask(*TRIP, new(2, [50, 20]), value(1, 2), value(0, 3), value(2, 0), observe(0, 0), play([5, 5]))
        self.assertEqual(got[4:], [[0], [0, 0, 1], [-8], [-4], [0, 2], [0, 0, 2, 40]])

    def test_made_anew_with_more_seats_and_classes(self):
        got = ask(new(1, [5]), demand(0, [0, 1]), new(3, [9, 6]), demand(1, [0, 0, 1]), value(1, 3), value(0, 3))
        self.assertEqual(got[3:], [[0], [0, 12, 1], [0, 0, 1]])


class Demand(unittest.TestCase):
    def test_answers_0_alone(self):
        self.assertEqual(ask_last(new(3, [100]), demand(0, [1, 2])), [0])

    def test_weights_are_for_0_1_2_seats(self):
        self.assertEqual(ask_last(new(9, [10]), demand(0, [5, 0, 3, 2]), value(0, 9)), [0, 12, 1])

    def test_what_the_class_had_before_is_gone(self):
        got = ask(new(9, [10]), demand(0, [1, 1, 1, 1]), demand(0, [1, 2]), value(0, 9), observe(0, 0))
        self.assertEqual(got[3:], [[0, 20, 3], [0, 4]])

    def test_only_class_i_is_changed(self):
        got = ask(new(9, [10, 7]), demand(1, [0, 1]), value(0, 9), value(1, 9))
        self.assertEqual(got[2:], [[0, 0, 1], [0, 7, 1]])

    def test_zeros_at_the_end_are_weights_too(self):
        got = ask(new(9, [10]), demand(0, [1, 1, 0, 0]), value(0, 9), observe(0, 3), value(0, 9))
        self.assertEqual(got[2:], [[0, 5, 1], [0, 3], [0, 40, 3]])


class Observe(unittest.TestCase):
    def test_one_more_at_a_weight_that_is_there(self):
        got = ask(new(9, [10]), demand(0, [1, 2, 3]), observe(0, 1), value(0, 9))
        self.assertEqual(got[2:], [[0, 7], [0, 90, 7]])

    def test_one_class_alone_is_changed(self):
        got = ask(*TRIP, observe(1, 2), observe(0, 0), observe(2, 1), observe(1, 2))
        self.assertEqual(got[4:], [[0, 3], [0, 5], [0, 4], [0, 4]])

    def test_the_sum_is_that_of_all_weights(self):
        self.assertEqual(ask_last(new(1, [1]), demand(0, [10, 200, 1000, 7]), observe(0, 3)), [0, 1218])

    def test_the_values_follow(self):
        # Class 0 then asks for 0, 1, 2 with 1/5, 1/5, 3/5: U(0, 1) = 80, U(0, 2) = 20 + 120.
        got = ask(*TRIP, observe(0, 2), value(0, 1), value(0, 2), marginal(0, 2), protections())
        self.assertEqual(got[5:9], [[0, 80, 1], [0, 140, 1], [0, 60, 1], [0, 1, 2]])


class Value(unittest.TestCase):
    def test_trip(self):
        due = [[0, 75, 125, 125], [0, 75, 130, 160], [0, 75, 130, 170]]
        for i in range(3):
            for x in range(4):
                self.assertEqual(ask_last(*TRIP, value(i, x)), [0, due[i][x], 1], (i, x))

    def test_fractions(self):
        # Class 0: U(0, 1) = 10 * 2/3, U(0, 2) = 10 * 1/3 + 20 * 1/3 = 10. Class 1 (fare 4) asks
        # for 1 with 3/7: U(1, 1) = 20/3; U(1, 2) = 10 * 4/7 + (4 + 20/3) * 3/7 = 72/7;
        # U(1, 3) = 10 + 4 * 3/7.
        plan = [new(3, [10, 4]), demand(0, [2, 2, 2]), demand(1, [4, 3])]
        got = ask(*plan, value(0, 1), value(0, 2), value(1, 1), value(1, 2), value(1, 3))
        self.assertEqual(got[3:], [[0, 20, 3], [0, 10, 1], [0, 20, 3], [0, 72, 7], [0, 82, 7]])

    def test_lower_classes_do_not_count(self):
        got = ask(new(5, [10, 4]), demand(1, [0, 0, 1]), value(0, 5), value(1, 5))
        self.assertEqual(got[2:], [[0, 0, 1], [0, 8, 1]])

    def test_a_part_of_what_is_asked_may_be_sold(self):
        # Class 0 asks for 1 for sure; of the 5 that class 1 asks for, the best is to sell 2 of 3.
        got = ask(new(3, [10, 4]), demand(0, [0, 1]), demand(1, [0, 0, 0, 0, 0, 1]), value(1, 3))
        self.assertEqual(got[3], [0, 18, 1])


class Marginal(unittest.TestCase):
    def test_trip(self):
        due = [[75, 50, 0], [75, 55, 30], [75, 55, 40]]
        for i in range(3):
            for x in range(1, 4):
                self.assertEqual(ask_last(*TRIP, marginal(i, x)), [0, due[i][x - 1], 1], (i, x))

    def test_fractions(self):
        plan = [new(3, [10, 4]), demand(0, [2, 2, 2]), demand(1, [4, 3])]
        got = ask(*plan, marginal(0, 1), marginal(0, 2), marginal(1, 2), marginal(1, 3))
        self.assertEqual(got[3:], [[0, 20, 3], [0, 10, 3], [0, 76, 21], [0, 10, 7]])


class Protections(unittest.TestCase):
    def test_trip(self):
        self.assertEqual(ask_last(*TRIP, protections()), [0, 1, 2])

    def test_none_when_nobody_asks(self):
        self.assertEqual(ask_last(new(60, [9, 8, 7, 6]), protections()), [0, 0, 0, 0])

    def test_not_more_than_the_seats(self):
        # Class 0 asks for 5 for sure: each of the 3 seats is worth 10.
        got = ask(new(3, [10, 4]), demand(0, [0, 0, 0, 0, 0, 1]), protections())
        self.assertEqual(got[2], [0, 3])

    def test_may_be_the_same_for_two_classes(self):
        got = ask(new(9, [10, 4, 3]), demand(0, [0, 0, 1]), protections())
        self.assertEqual(got[2], [0, 2, 2])


class Decide(unittest.TestCase):
    def test_trip(self):
        # Nothing is kept from class 0, one seat from class 1, two from class 2.
        kept = [0, 1, 2]
        for i in range(3):
            for x in range(4):
                for n in range(6):
                    due = min(n, max(x - kept[i], 0))
                    self.assertEqual(ask_last(*TRIP, decide(i, x, n)), [0, due], (i, x, n))

    def test_written_out(self):
        got = ask(*TRIP, decide(0, 3, 2), decide(1, 3, 3), decide(2, 3, 3), decide(2, 2, 3), decide(1, 1, 1))
        self.assertEqual(got[4:], [[0, 2], [0, 2], [0, 1], [0, 0], [0, 0]])


class Play(unittest.TestCase):
    def test_trip(self):
        due = {
            (0, 0, 0): [0, 0, 0, 0],
            (1, 1, 1): [1, 1, 1, 200],
            (2, 2, 0): [1, 2, 0, 220],
            (3, 0, 5): [2, 0, 1, 240],
            (60, 60, 60): [1, 1, 1, 200],
            (0, 0, 60): [0, 0, 1, 40],
            (0, 60, 0): [0, 2, 0, 120],
            (60, 0, 0): [3, 0, 0, 300],
            (0, 1, 1): [0, 1, 1, 100],
        }
        for numbers in due:
            self.assertEqual(ask_last(*TRIP, play(numbers)), [0] + due[numbers], numbers)


class Mean(unittest.TestCase):
    def test_trip_with_the_protections(self):
        # Keeping just as many as is best earns what the seats are worth.
        self.assertEqual(ask_last(*TRIP, mean([1, 2])), [0, 170, 1])

    def test_trip_with_nothing_kept(self):
        # Class 2 takes 1 (1/3) or all 3 (2/3, 120). With 2 left class 1 takes 0 (then 125) or
        # both (then 120): 122 1/2 in the mean. 1/3 * (40 + 122.5) + 2/3 * 120 = 805/6.
        self.assertEqual(ask_last(*TRIP, mean([0, 0])), [0, 805, 6])

    def test_trip_with_all_kept(self):
        self.assertEqual(ask_last(*TRIP, mean([3, 3])), [0, 125, 1])
        self.assertEqual(ask_last(*TRIP, mean([60, 60])), [0, 125, 1])

    def test_more_kept_from_class_1_than_from_class_2(self):
        # Class 2 is sold 1 (1/3) or 2 (2/3), and then class 1 none: 2 or 1 seats for class 0.
        # 1/3 * (40 + 125) + 2/3 * (80 + 75) = 475/3.
        self.assertEqual(ask_last(*TRIP, mean([3, 1])), [0, 475, 3])

    def test_each_kept_number_is_for_its_class(self):
        # p(0) = 0, p(1) = 2: class 2 is sold 1; class 1 takes 0 (then 125) or both (120).
        self.assertEqual(ask_last(*TRIP, mean([0, 2])), [0, 325, 2])
        # p(0) = 2, p(1) = 0: class 2 takes 1 (1/3; then class 1 gets none, 125) or 3 (120).
        self.assertEqual(ask_last(*TRIP, mean([2, 0])), [0, 135, 1])


class Known(unittest.TestCase):
    def test_trip(self):
        due = {
            (0, 0, 0): [0, 0, 0, 0],
            (1, 1, 1): [1, 1, 1, 200],
            (2, 2, 2): [2, 1, 0, 260],
            (3, 1, 1): [3, 0, 0, 300],
            (60, 60, 60): [3, 0, 0, 300],
            (0, 0, 60): [0, 0, 3, 120],
            (1, 0, 60): [1, 0, 2, 180],
        }
        for numbers in due:
            self.assertEqual(ask_last(*TRIP, known(numbers)), [0] + due[numbers], numbers)

    def test_the_weights_do_not_count(self):
        self.assertEqual(ask_last(new(3, [100, 60, 40]), known([1, 0, 60])), [0, 1, 0, 2, 180])


class MeanKnown(unittest.TestCase):
    def test_trip(self):
        # What's sold and earned for each day, asked for by the classes 0, 1, 2, with its chance
        # in parts of 24 (1, 1, 2 of 4 times 1, 1 of 2 times 1, 2 of 3):
        #   0 0 1 (1) 40;    0 0 3 (2) 120;   0 2 1 (1) 160;   0 2 3 (2) 160;
        #   1 0 1 (1) 140;   1 0 3 (2) 180;   1 2 1 (1) 220;   1 2 3 (2) 220;
        #   2 0 1 (2) 240;   2 0 3 (4) 240;   2 2 1 (2) 260;   2 2 3 (4) 260.
        # 40 + 240 + 160 + 320 + 140 + 360 + 220 + 440 + 480 + 960 + 520 + 1040 = 4920; / 24 = 205.
        self.assertEqual(ask_last(*TRIP, meanknown()), [0, 205, 1])

    def test_a_fraction(self):
        # One seat: 10 if class 0 comes (1/3), else 4 if class 1 comes (2/3 * 2/5): 50/15 + 16/15.
        plan = [new(1, [10, 4]), demand(0, [2, 1]), demand(1, [3, 1, 1])]
        self.assertEqual(ask_last(*plan, meanknown()), [0, 22, 5])

    def test_more_seats_than_are_asked_for(self):
        # All is sold: 100 * 5/4 + 60 * 1 + 40 * 7/3.
        plan = [new(60, [100, 60, 40])] + TRIP[1:]
        self.assertEqual(ask_last(*plan, meanknown()), [0, 835, 3])

    def test_it_is_more_than_the_best_without_knowing(self):
        got = ask(*TRIP, value(2, 3), meanknown())
        self.assertEqual(got[4:], [[0, 170, 1], [0, 205, 1]])

    def test_it_follows_what_is_observed(self):
        # Class 0 asks for 0 or 1 with 1/2 each, then with 1/3 and 2/3.
        got = ask(new(2, [12]), observe(0, 1), meanknown(), observe(0, 1), meanknown())
        self.assertEqual(got[1:], [[0, 2], [0, 6, 1], [0, 3], [0, 8, 1]])


class Chance(unittest.TestCase):
    def test_trip(self):
        due = [
            [(1, 1), (3, 4), (1, 2), (0, 1)],
            [(1, 1), (1, 2), (1, 2), (0, 1)],
            [(1, 1), (1, 1), (2, 3), (2, 3), (0, 1)],
        ]
        for i in range(3):
            for n, fraction in enumerate(due[i]):
                self.assertEqual(ask_last(*TRIP, chance(i, n)), [0, *fraction], (i, n))

    def test_lowest_terms(self):
        plan = [new(1, [5]), demand(0, [6, 10, 14, 18])]
        got = ask(*plan, chance(0, 1), chance(0, 2), chance(0, 3))
        self.assertEqual(got[2:], [[0, 7, 8], [0, 2, 3], [0, 3, 8]])

    def test_more_than_the_plans_seats_may_be_asked_for(self):
        plan = [new(0, [5]), demand(0, [1, 1, 1, 1])]
        self.assertEqual(ask_last(*plan, chance(0, 3)), [0, 1, 4])


class Asked(unittest.TestCase):
    def test_trip(self):
        got = ask(*TRIP, asked(0), asked(1), asked(2))
        self.assertEqual(got[4:], [[0, 5, 4], [0, 1, 1], [0, 7, 3]])

    def test_more_than_the_plans_seats_may_be_asked_for(self):
        self.assertEqual(ask_last(new(0, [5]), demand(0, [1, 1, 1, 1]), asked(0)), [0, 3, 2])

    def test_it_follows_what_is_observed(self):
        got = ask(new(3, [5]), observe(0, 7), asked(0), chance(0, 7), observe(0, 7), asked(0), chance(0, 7))
        self.assertEqual(got[1:], [[0, 2], [0, 7, 2], [0, 1, 2], [0, 3], [0, 14, 3], [0, 2, 3]])


class Shown(unittest.TestCase):
    def test_trip(self):
        self.assertEqual(ask_last(*TRIP, shown()), [0, 3, 3, 0, 100, 60, 40])

    def test_one_class_and_no_seats(self):
        self.assertEqual(ask_last(new(0, [1]), shown()), [0, 0, 1, 0, 1])

    def test_the_largest(self):
        fares = [1000000, 999999, 8, 7, 6, 5, 4, 1]
        self.assertEqual(ask_last(new(60, fares), shown()), [0, 60, 8, 0] + fares)

    def test_with_periods(self):
        got = ask(*TRIP, period([1, 2, 3, 4]), shown(), period([1, 2, 3, 4]), shown())
        self.assertEqual([got[5], got[7]], [[0, 3, 3, 1, 100, 60, 40], [0, 3, 3, 2, 100, 60, 40]])

    def test_it_is_the_plan_made_last(self):
        got = ask(*TRIP, new(7, [9, 4]), shown())
        self.assertEqual(got[5], [0, 7, 2, 0, 9, 4])


if __name__ == "__main__":
    unittest.main()
