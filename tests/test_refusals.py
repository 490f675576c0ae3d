"""Wrong inputs: ranges, lengths, the refusals' order, and that a refusal changes nothing."""

import unittest

from tests.helper import (
    accept, ask, ask_last, asked, chance, clear, decide, demand, known, marginal, mean, meanknown, new, observe,
    period, play, protections, requests, shown, spanvalue, value,
)

FAR = 1000000000000
EIGHT = [80, 70, 60, 50, 40, 30, 20, 10]

# Nothing of what is asked here may be otherwise after a refusal. The sums that observe
# answers stand last, as it changes the weights itself.
WATCHED = [
    new(5, [100, 60, 40]),
    demand(0, [1, 1, 2]),
    demand(1, [1, 0, 1]),
    demand(2, [0, 1000, 0, 2]),
    period([3, 0, 0, 1]),
    period([0, 1, 5, 1]),
]
LOOK = [
    shown(), value(0, 5), value(1, 5), value(2, 5), value(2, 4), value(2, 3), value(2, 6), value(3, 0), protections(),
    mean([1, 2]), mean([0, 0]), play([60, 60, 60]), known([1, 1, 60]), meanknown(), chance(0, 1), chance(2, 3),
    asked(0), asked(1), asked(2), spanvalue(0, 1), spanvalue(1, 1), spanvalue(2, 1), spanvalue(2, 2), spanvalue(3, 1),
    accept(1, 1), accept(2, 1), accept(2, 2), requests(2, [1, 2]), requests(1, [2, 0]), period([1, 1, 1, 1]),
    spanvalue(3, 2), spanvalue(20, 5), observe(0, 0), observe(1, 2), observe(2, 0),
]
# As many periods as there may be.
FULL = WATCHED + [period([n, 1, 1, 1]) for n in range(18)]


class Case(unittest.TestCase):
    def refused(self, call, due, plan=WATCHED):
        """Refused with just this number, and the plan is afterwards as it was."""
        without = ask(*plan, *LOOK)
        got = ask(*plan, call, *LOOK)
        self.assertEqual(got[len(plan)], [due], call)
        self.assertEqual(got[len(plan) + 1:], without[len(plan):], call)

    def taken(self, *calls):
        got = ask_last(*calls)
        self.assertEqual(got[0], 0, calls)


class Ranges(Case):
    def test_new(self):
        for seats in (0, 1, 59, 60):
            self.taken(new(seats, [5]))
        for seats in (-1, 61, -FAR, FAR):
            self.refused(new(seats, [5]), -2)
            self.assertEqual(ask(new(seats, [5]), protections()), [[-2], [-3]])
        for fares in ([1], [1000000], [1000000, 1], [2, 1]):
            self.taken(new(5, fares))
        for fares in ([0], [-1], [1000001], [1000001, 5], [5, 0], [5, -5], [FAR, 5], [5, -FAR]):
            self.refused(new(5, fares), -2)

    def test_new_row_lengths(self):
        for count in range(1, 9):
            self.taken(new(5, EIGHT[:count]))
        self.refused(new(5, []), -2)
        for count in (9, 10, 39, 40):
            self.refused(new(5, list(range(100, 100 - count, -1))), -2)

    def test_demand(self):
        eight = new(5, EIGHT)
        for i in range(8):
            self.taken(eight, demand(i, [0, 1]))
        for i in (-1, 8, -FAR, FAR):
            self.refused(demand(i, [0, 1]), -2)
            self.assertEqual(ask_last(eight, demand(i, [0, 1])), [-2])
        for weights in ([1], [1000], [0, 1000], [1, 0], [1000] * 21, [0] * 20 + [1]):
            self.taken(eight, demand(0, weights))
        for weights in ([-1], [1001], [5, 1001], [5, -1], [5, FAR], [-FAR, 5], [0] * 20 + [1001]):
            self.refused(demand(0, weights), -2)

    def test_demand_row_lengths(self):
        for count in (0, 22, 23, 39, 40):
            self.refused(demand(0, [1] * count), -2)

    def test_observe(self):
        eight = new(5, EIGHT)
        for i in (0, 7):
            for d in (0, 20):
                self.taken(eight, observe(i, d))
        for i in (-1, 8, -FAR, FAR):
            self.refused(observe(i, 0), -2)
            self.assertEqual(ask_last(eight, observe(i, 0)), [-2])
        for d in (-1, 21, -FAR, FAR):
            self.refused(observe(0, d), -2)

    def test_value(self):
        eight = new(60, EIGHT)
        for i in (0, 7):
            for x in (0, 60):
                self.taken(eight, value(i, x))
        for i in (-1, 8, -FAR, FAR):
            self.refused(value(i, 0), -2)
            self.assertEqual(ask_last(eight, value(i, 0)), [-2])
        for x in (-1, 61, -FAR, FAR):
            self.refused(value(0, x), -2)
            self.assertEqual(ask_last(eight, value(0, x)), [-2])

    def test_marginal(self):
        eight = new(60, EIGHT)
        for i in (0, 7):
            for x in (1, 60):
                self.taken(eight, marginal(i, x))
        for i in (-1, 8, -FAR, FAR):
            self.refused(marginal(i, 1), -2)
            self.assertEqual(ask_last(eight, marginal(i, 1)), [-2])
        for x in (0, -1, 61, -FAR, FAR):
            self.refused(marginal(0, x), -2)
            self.assertEqual(ask_last(eight, marginal(0, x)), [-2])

    def test_decide(self):
        eight = new(60, EIGHT)
        for i in (0, 7):
            for x in (0, 60):
                for n in (0, 60):
                    self.taken(eight, decide(i, x, n))
        for i in (-1, 8, -FAR, FAR):
            self.refused(decide(i, 0, 0), -2)
            self.assertEqual(ask_last(eight, decide(i, 0, 0)), [-2])
        for number in (-1, 61, -FAR, FAR):
            self.refused(decide(0, number, 0), -2)
            self.refused(decide(0, 0, number), -2)
            self.assertEqual(ask_last(eight, decide(0, number, 0)), [-2])

    def test_play_and_known(self):
        for call in (play, known):
            for asked in ([0, 0, 0], [60, 60, 60]):
                self.taken(*WATCHED, call(asked))
            for number in (-1, 61, -FAR, FAR):
                for at in range(3):
                    asked = [1, 1, 1]
                    asked[at] = number
                    self.refused(call(asked), -2)

    def test_play_and_known_row_lengths(self):
        for call in (play, known):
            for count in (0, 9, 10, 39, 40):
                self.refused(call([1] * count), -2)
            for count in range(1, 9):
                self.taken(new(5, EIGHT[:count]), call([1] * count))

    def test_mean(self):
        for kept in ([0, 0], [60, 60]):
            self.taken(*WATCHED, mean(kept))
        for number in (-1, 61, -FAR, FAR):
            self.refused(mean([number, 1]), -2)
            self.refused(mean([1, number]), -2)

    def test_mean_row_lengths(self):
        for count in (8, 9, 39, 40):
            self.refused(mean([1] * count), -2)
        for count in range(8):
            self.taken(new(5, EIGHT[:count + 1]), mean([1] * count))


    def test_chance(self):
        eight = new(60, EIGHT)
        for i in (0, 7):
            for n in (0, 60):
                self.taken(eight, chance(i, n))
        for i in (-1, 8, -FAR, FAR):
            self.refused(chance(i, 0), -2)
            self.assertEqual(ask_last(eight, chance(i, 0)), [-2])
        for n in (-1, 61, -FAR, FAR):
            self.refused(chance(0, n), -2)
            self.assertEqual(ask_last(eight, chance(7, n)), [-2])

    def test_asked(self):
        eight = new(60, EIGHT)
        for i in (0, 7):
            self.taken(eight, asked(i))
        for i in (-1, 8, -FAR, FAR):
            self.refused(asked(i), -2)
            self.assertEqual(ask_last(eight, asked(i)), [-2])

    def test_period(self):
        for weights in ([0, 0, 0, 1], [1000, 0, 0, 0], [0, 1000, 1000, 0], [1000] * 4, [1, 0, 0, 1000]):
            self.taken(*WATCHED, period(weights))
        for number in (-1, 1001, -FAR, FAR):
            for at in range(4):
                weights = [1, 1, 1, 1]
                weights[at] = number
                self.refused(period(weights), -2)

    def test_period_row_lengths(self):
        for count in (0, 1, 10, 11, 39, 40):
            self.refused(period([1] * count), -2)
        for count in range(2, 10):
            self.taken(new(5, EIGHT[:count - 1]), period([1] * count))

    def test_spanvalue(self):
        full = [new(60, EIGHT)] + [period([1] * 9)] * 20
        for t in (0, 20):
            for x in (0, 60):
                self.taken(*full, spanvalue(t, x))
        for number in (-1, -FAR, FAR):
            self.refused(spanvalue(number, 0), -2)
            self.refused(spanvalue(0, number), -2)
        for call in (spanvalue(21, 0), spanvalue(0, 61)):
            self.refused(call, -2)
            self.assertEqual(ask_last(*full, call), [-2])

    def test_accept(self):
        full = [new(60, EIGHT)] + [period([1] * 9)] * 20
        for t in (1, 20):
            for x in (0, 60):
                self.taken(*full, accept(t, x))
        for number in (-1, -FAR, FAR):
            self.refused(accept(number, 0), -2)
            self.refused(accept(1, number), -2)
        for call in (accept(0, 0), accept(0, 5), accept(21, 0), accept(1, 61)):
            self.refused(call, -2)
            self.assertEqual(ask_last(*full, call), [-2])

    def test_requests(self):
        for x in (0, 60):
            self.taken(new(60, EIGHT), requests(x, []))
        for x in (-1, 61, -FAR, FAR):
            self.refused(requests(x, [0, 0]), -2)
            self.assertEqual(ask_last(new(60, EIGHT), requests(x, [])), [-2])
        eight = [new(60, EIGHT)] + [period([1] * 9)] * 2
        for wanted in ([0, 0], [8, 8], [0, 8], [7, 1]):
            self.taken(*eight, requests(5, wanted))
        for number in (-1, 9, -FAR, FAR):
            for wanted in ([number, 0], [0, number]):
                self.refused(requests(5, wanted), -2)
                self.assertEqual(ask_last(*eight, requests(5, wanted)), [-2])

    def test_requests_row_lengths(self):
        for count in (21, 22, 39, 40):
            self.refused(requests(5, [0] * count), -2)
            self.refused(requests(5, [0] * count), -2, FULL)
        for count in range(21):
            self.taken(new(5, [9]), *[period([1, 1])] * count, requests(5, [0] * count))


class Own(Case):
    def test_fares_that_do_not_fall(self):
        for fares in ([5, 5], [5, 6], [9, 8, 8], [9, 9, 8], [9, 7, 8], [8, 9, 7], EIGHT[:7] + [20], [1, 1000000]):
            self.refused(new(5, fares), -5)
            self.assertEqual(ask(new(5, fares), protections()), [[-5], [-3]])

    def test_weights_all_0(self):
        for count in (1, 2, 20, 21):
            self.refused(demand(0, [0] * count), -5)

    def test_a_full_weight(self):
        self.refused(observe(2, 1), -6)

    def test_not_as_many_numbers_as_classes(self):
        for call in (play, known):
            for count in (1, 2, 4, 5, 8):
                self.refused(call([1] * count), -7)

    def test_not_one_kept_number_fewer_than_classes(self):
        for count in (0, 1, 3, 4, 7):
            self.refused(mean([1] * count), -7)
        self.assertEqual(ask_last(new(5, [9]), mean([1])), [-7])
        self.assertEqual(ask_last(new(5, EIGHT), mean([1] * 6)), [-7])

    def test_more_seats_than_the_plan_has(self):
        for x in (6, 7, 60):
            self.refused(value(0, x), -8)
            self.refused(marginal(0, x), -8)
            self.refused(decide(0, x, 0), -8)
            self.refused(decide(2, x, 60), -8)
        self.taken(*WATCHED, value(0, 5))
        self.taken(*WATCHED, marginal(0, 5))
        self.taken(*WATCHED, decide(0, 5, 60))


    def test_not_one_weight_more_than_classes(self):
        for count in (2, 3, 5, 6, 9):
            self.refused(period([1] * count), -7)
        for classes in range(1, 9):
            plan = new(5, EIGHT[:classes])
            for count in range(2, 10):
                due = [0, 1] if count == classes + 1 else [-7]
                self.assertEqual(ask_last(plan, period([1] * count)), due, (classes, count))

    def test_weights_of_a_period_all_0(self):
        self.refused(period([0, 0, 0, 0]), -5)
        self.assertEqual(ask_last(new(5, [9]), period([0, 0])), [-5])
        self.assertEqual(ask_last(new(5, EIGHT), period([0] * 9)), [-5])

    def test_a_21st_period(self):
        self.assertEqual(ask(*FULL)[-1], [0, 20])
        self.refused(period([1, 1, 1, 1]), -6, FULL)
        self.taken(*FULL[:-1], period([1, 1, 1, 1]))

    def test_more_to_go_than_there_are_periods(self):
        for t in (3, 4, 20):
            self.refused(spanvalue(t, 5), -9)
            self.refused(accept(t, 5), -9)
            self.refused(spanvalue(t, 0), -9)
            self.refused(accept(t, 0), -9)
        self.taken(*WATCHED, spanvalue(2, 5))
        self.taken(*WATCHED, accept(2, 5))
        for t in (1, 20):
            self.assertEqual(ask_last(new(5, [9]), spanvalue(t, 0)), [-9])
            self.assertEqual(ask_last(new(5, [9]), accept(t, 0)), [-9])
        self.assertEqual(ask_last(*FULL[:-1], spanvalue(20, 5)), [-9])
        self.assertEqual(ask_last(*FULL[:-1], accept(20, 5)), [-9])

    def test_more_seats_with_periods_than_the_plan_has(self):
        for x in (6, 7, 60):
            for t in (0, 1, 2):
                self.refused(spanvalue(t, x), -8)
            for t in (1, 2):
                self.refused(accept(t, x), -8)
            self.refused(requests(x, [0, 0]), -8)
            self.refused(requests(x, [3, 3]), -8)
        self.taken(*WATCHED, requests(5, [0, 0]))
        self.assertEqual(ask_last(new(0, [9]), requests(1, [])), [-8])

    def test_not_as_many_requests_as_periods(self):
        for count in (0, 1, 3, 4, 20):
            self.refused(requests(5, [0] * count), -7)
            self.refused(requests(5, [3] * count), -7)
        self.refused(requests(5, [0] * 19), -7, FULL)
        self.assertEqual(ask_last(new(5, [9]), requests(5, [0])), [-7])

    def test_a_request_above_the_classes(self):
        self.taken(*WATCHED, requests(5, [3, 3]))
        for wanted in ([4, 0], [0, 4], [8, 0], [0, 8], [4, 4], [3, 5]):
            self.refused(requests(5, wanted), -7)
        for classes in range(1, 8):
            plan = [new(5, EIGHT[:classes]), period([1] * (classes + 1))]
            self.taken(*plan, requests(5, [classes]))
            self.assertEqual(ask_last(*plan, requests(5, [classes + 1])), [-7], classes)

    def test_a_request_above_the_classes_where_no_seat_is_left(self):
        self.refused(requests(0, [0, 4]), -7)


class NoPlan(Case):
    CALLS = [
        demand(0, [1]), observe(0, 0), value(0, 0), marginal(0, 1), protections(), decide(0, 0, 0),
        play([1]), mean([]), known([1]), meanknown(), chance(0, 0), asked(0), spanvalue(0, 0), requests(0, []),
        period([1, 1]), accept(1, 0), clear(), shown(),
    ]

    def test_any_call_first(self):
        for call in self.CALLS:
            self.assertEqual(ask(call), [[-3]], call)

    def test_a_refused_new_makes_no_plan(self):
        for wrong in (new(61, [5]), new(5, []), new(5, [0]), new(5, [5, 5])):
            for call in self.CALLS:
                self.assertEqual(ask(wrong, call)[1], [-3], (wrong, call))

    def test_all_go_with_a_plan(self):
        for call in self.CALLS:
            # accept needs a period.
            before = [period([1, 1])] if call[0] == 15 else []
            self.assertEqual(ask_last(call, new(1, [9]), *before, call)[0], 0, call)

    def test_what_was_refused_for_want_of_a_plan_is_not_kept(self):
        got = ask(period([1, 1]), clear(), demand(0, [0, 1]), new(1, [9]), shown(), asked(0))
        self.assertEqual(got, [[-3], [-3], [-3], [0], [0, 1, 1, 0, 9], [0, 0, 1]])


class NoClass(Case):
    def test_a_class_that_is_not_there(self):
        for i in (3, 4, 7):
            self.refused(demand(i, [0, 1]), -4)
            self.refused(observe(i, 0), -4)
            self.refused(value(i, 0), -4)
            self.refused(marginal(i, 1), -4)
            self.refused(decide(i, 0, 0), -4)
            self.refused(chance(i, 0), -4)
            self.refused(asked(i), -4)

    def test_just_as_many_as_fares(self):
        for count in range(1, 8):
            plan = new(5, EIGHT[:count])
            for call in (
                demand(count, [1]), observe(count, 0), value(count, 0), marginal(count, 1), decide(count, 0, 0),
                chance(count, 0), asked(count),
            ):
                self.assertEqual(ask_last(plan, call), [-4])
            for call in (value(count - 1, 0), chance(count - 1, 0), asked(count - 1)):
                self.taken(plan, call)

    def test_calls_that_name_no_class(self):
        # Their first number may be as great as it likes beside the number of classes.
        plan = [new(60, [9])] + [period([1, 1])] * 20
        for call in (spanvalue(7, 60), spanvalue(1, 1), accept(20, 60), accept(1, 0), requests(60, [0] * 20)):
            self.taken(*plan, call)


class Order(Case):
    def test_2_before_3(self):
        for call in (
            demand(8, [1]), demand(0, []), demand(0, [1001]), observe(8, 0), observe(0, 21), value(0, 61),
            value(-1, 0), marginal(0, 0), decide(0, 0, 61), play([]), play([61]), mean([61]), mean([1] * 8),
            known([]), known([-1]), chance(8, 0), chance(0, 61), asked(8), asked(-1), period([]), period([1]),
            period([1001, 1]), spanvalue(21, 0), spanvalue(0, 61), accept(0, 0), accept(21, 0), accept(1, 61),
            requests(61, []), requests(0, [9]), requests(0, [0] * 21),
        ):
            self.assertEqual(ask(call), [[-2]], call)

    def test_2_before_4(self):
        for call in (
            demand(3, []), demand(3, [1001]), observe(3, 21), value(3, 61), marginal(3, 0), decide(3, 61, 0),
            decide(3, 0, 61), chance(3, 61), chance(3, -1),
        ):
            self.refused(call, -2)

    def test_2_before_5(self):
        for call in (
            new(61, [5, 5]), new(-1, [5, 6]), new(5, [5, 5, 0]), new(5, [5] * 9), new(5, [5, 1000001]),
            demand(8, [0]), demand(0, [0] * 22), demand(0, [0, -1]), demand(0, [1, -1]), period([0, 0, 0, -1]),
            period([1, -1, 0, 0]), period([0] * 10), period([0]),
        ):
            self.refused(call, -2)

    def test_2_before_7_and_8(self):
        for call in (
            play([61]), play([1] * 9), known([-1, 0]), mean([61]), decide(0, 6, 61), value(-1, 6), period([1001, 0]),
            period([-1] * 5), requests(6, [9, 0]), requests(6, [0] * 21), requests(5, [9]), requests(5, [4, -1]),
            requests(61, [0, 4]),
        ):
            self.refused(call, -2)

    def test_2_before_6(self):
        for call in (period([1001, 0, 0, 0]), period([1] * 10), observe(8, 1)):
            self.refused(call, -2, FULL)

    def test_2_before_9(self):
        for call in (spanvalue(3, 61), spanvalue(3, -1), accept(3, 61), accept(3, -1)):
            self.refused(call, -2)

    def test_3_before_4_5_7_8(self):
        for call in (
            demand(7, [1]), demand(0, [0]), observe(7, 0), value(7, 60), marginal(7, 60), decide(7, 60, 60),
            play([1] * 8), mean([1] * 7), known([1] * 8), chance(7, 60), asked(7), period([0] * 9), period([1] * 5),
            spanvalue(20, 60), spanvalue(0, 60), accept(20, 60), requests(60, [8] * 20),
        ):
            self.assertEqual(ask(call), [[-3]], call)

    def test_4_before_5(self):
        self.refused(demand(3, [0]), -4)

    def test_4_before_8(self):
        for call in (value(3, 6), marginal(3, 6), decide(3, 6, 0)):
            self.refused(call, -4)

    def test_period_7_before_5(self):
        for count in (2, 3, 5, 9):
            self.refused(period([0] * count), -7)

    def test_period_7_before_6(self):
        for count in (2, 3, 5, 9):
            self.refused(period([1] * count), -7, FULL)

    def test_period_7_before_5_and_6(self):
        for count in (2, 3, 5, 9):
            self.refused(period([0] * count), -7, FULL)

    def test_period_5_before_6(self):
        self.refused(period([0, 0, 0, 0]), -5, FULL)

    def test_9_before_8(self):
        for x in (6, 60):
            for t in (3, 20):
                self.refused(spanvalue(t, x), -9)
                self.refused(accept(t, x), -9)

    def test_requests_8_before_7(self):
        for x in (6, 60):
            for wanted in ([], [0], [0, 0, 0], [4, 0], [0, 8], [8] * 20):
                self.refused(requests(x, wanted), -8)


if __name__ == "__main__":
    unittest.main()
