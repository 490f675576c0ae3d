"""How calls and answers stand in their lists, the largest lists, and that nothing is kept."""

import unittest

from keptseats.plan import answers
from tests.helper import (
    accept, ask, asked, chance, clear, decide, demand, flat, known, marginal, mean, meanknown, new, observe, period,
    play, protections, requests, shown, spanvalue, value,
)

FARES = [1000000, 999999, 700001, 500009, 300007, 200003, 100003, 1]


def large():
    """100 calls, each of the largest size."""
    calls = [new(60, FARES)]
    for i in range(8):
        calls.append(demand(i, [1000 - (i * 37 + d * d * 11) % 999 for d in range(21)]))
    for t in range(20):
        calls.append(period([1000 - (t * 37 + i * i * 11) % 999 for i in range(9)]))
    looks = [
        value(7, 60), marginal(7, 60), protections(), decide(7, 60, 60), play([60] * 8), mean([60] * 7),
        known([60] * 8), mean([5 * i for i in range(1, 8)]), meanknown(), chance(7, 20), asked(7), spanvalue(20, 60),
        spanvalue(20, 7), accept(20, 60), accept(20, 7), requests(60, [7] * 20), requests(7, [0] * 20), shown(),
    ]
    while len(calls) < 100:
        calls.append(looks[len(calls) % len(looks)])
    return calls


class Lists(unittest.TestCase):
    def test_counts_stand_before_the_answers(self):
        # new, demand, value (100 * 1/2), protections (50 isn't above 60), play (too short), known.
        got = answers([0, 3, 2, 100, 60, 1, 0, 2, 1, 1, 3, 0, 3, 5, 7, 1, 9, 9, 2, 2, 3])
        self.assertEqual(got, [1, 0, 1, 0, 3, 0, 50, 1, 2, 0, 0, 1, -7, 4, 0, 2, 1, 260])

    def test_each_call_as_the_interface_writes_it(self):
        calls = [
            0, 3, 2, 100, 60,
            1, 0, 2, 1, 1,
            2, 0, 1,
            3, 0, 1,
            4, 0, 2,
            5,
            6, 1, 3, 9,
            7, 2, 9, 9,
            8, 1, 0,
            9, 2, 1, 9,
            10,
            11, 0, 1,
            12, 0,
            13, 3, 1, 0, 3,
            13, 3, 0, 1, 0,
            14, 2, 1,
            15, 2, 1,
            16, 1, 2, 1, 0,
            18,
            17,
            18,
            16, 3, 0,
        ]
        # Class 0 asks for 0 or 1 with 1/3 and 2/3: the first seat is worth 200/3, above 60.
        # The period that comes last brings 100 with 1/4, so that 60 is taken before it.
        due = [
            1, 0,
            1, 0,
            2, 0, 3,
            3, 0, 200, 3,
            3, 0, 0, 1,
            2, 0, 1,
            2, 0, 2,
            4, 0, 1, 2, 220,
            3, 0, 200, 3,
            4, 0, 1, 2, 220,
            3, 0, 200, 3,
            3, 0, 2, 3,
            3, 0, 2, 3,
            2, 0, 1,
            2, 0, 2,
            3, 0, 60, 1,
            2, 0, 2,
            4, 0, 1, 0, 60,
            6, 0, 3, 2, 2, 100, 60,
            1, 0,
            6, 0, 3, 2, 0, 100, 60,
            2, 0, 0,
        ]
        self.assertEqual(answers(calls), due)

    def test_rows_of_other_lengths_are_gone_past(self):
        calls = [new(5, []), new(5, [9, 8]), demand(0, []), demand(0, [3] * 40), play([]), mean([7] * 40),
                 known([0] * 40), new(5, list(range(40, 0, -1))), demand(1, [0, 1]), value(1, 5), period([]),
                 period([1] * 40), requests(5, [0] * 40), requests(5, []), shown()]
        due = [[-2], [0], [-2], [-2], [-2], [-2], [-2], [-2], [0], [0, 8, 1], [-2], [-2], [-2], [0, 0],
               [0, 5, 2, 0, 9, 8]]
        self.assertEqual(ask(*calls), due)

    def test_numbers_in_rows_are_not_calls(self):
        # What stands in a row must not be read as a call, whatever it looks like.
        calls = [new(5, [9, 5, 3]), play([5, 5, 5]), new(5, [3]), known([0])]
        self.assertEqual(ask(*calls), [[0], [0, 0, 0, 5, 15], [0], [0, 0, 0]])
        calls = [new(17, [18, 17]), period([17, 17, 17]), period([18, 18, 18]), requests(17, [0, 1]), shown()]
        self.assertEqual(ask(*calls), [[0], [0, 1], [0, 2], [0, 1, 1, 35], [0, 17, 2, 2, 18, 17]])

    def test_the_calls_without_arguments_one_behind_another(self):
        self.assertEqual(answers([10, 17, 18, 5]), [1, -3, 1, -3, 1, -3, 1, -3])
        got = answers([0, 0, 1, 1, 10, 17, 18, 5, 18, 17, 10])
        self.assertEqual(got, [1, 0, 3, 0, 0, 1, 1, 0, 5, 0, 0, 1, 0, 1, 1, 0, 5, 0, 0, 1, 0, 1, 1, 0, 3, 0, 0, 1])

    def test_gives_back_a_list_of_whole_numbers(self):
        got = answers(flat(large()))
        self.assertIs(type(got), list)
        self.assertEqual({type(number) for number in got}, {int})


class Large(unittest.TestCase):
    def test_100_calls(self):
        calls = large()
        self.assertEqual(len(calls), 100)
        got = ask(*calls)
        self.assertEqual([part[0] for part in got], [0] * 100)
        lengths = {3: 3, 4: 3, 5: 8, 6: 2, 7: 10, 8: 3, 9: 10, 10: 3, 11: 3, 12: 3, 14: 3, 15: 2, 16: 22, 18: 12}
        for call, part in list(zip(calls, got))[29:]:
            self.assertEqual(len(part), lengths[call[0]], call)
        self.assertEqual({call[0] for call in calls[29:]}, set(lengths))
        for first, again in zip(got[29:], got[47:]):
            self.assertEqual(first, again)

    def test_100_of_each_place_before_there_is_a_plan(self):
        first = {
            0: new(60, FARES), 1: demand(7, [1] * 21), 2: observe(7, 20), 3: value(7, 60), 4: marginal(7, 60),
            5: protections(), 6: decide(7, 60, 60), 7: play([60] * 8), 8: mean([60] * 7), 9: known([60] * 8),
            10: meanknown(), 11: chance(7, 60), 12: asked(7), 13: period([1000] * 9), 14: spanvalue(20, 60),
            15: accept(20, 60), 16: requests(60, [8] * 20), 17: clear(), 18: shown(),
        }
        for place in range(19):
            due = [0] if place == 0 else [-3]
            self.assertEqual(first[place][0], place)
            self.assertEqual(ask(*[first[place]] * 100), [due] * 100, place)

    def test_99_spans_of_the_largest_size(self):
        calls = large()[:1] + large()[9:29] + [spanvalue(20, 60), accept(20, 60), requests(60, [0] * 20)] * 26
        got = ask(*calls)
        self.assertEqual(len(got), 99)
        self.assertEqual([part[0] for part in got], [0] * 99)
        # There are more seats than periods: all are taken.
        self.assertEqual(got[22:24], [[0, 8], [0] + [1] * 20 + [20000000]])

    def test_100_rows_of_40(self):
        calls = [mean([1] * 40)] * 100
        self.assertEqual(ask(*calls), [[-2]] * 100)

    def test_100_observed(self):
        calls = [new(60, FARES)] + [observe(7, n % 21) for n in range(99)]
        self.assertEqual(ask(*calls), [[0]] + [[0, n + 2] for n in range(99)])


class NothingKept(unittest.TestCase):
    def test_what_is_handed_in_is_as_it_was(self):
        calls = flat(large()[:90] + [
            observe(0, 20), clear(), period([1] * 9), new(5, [9, 8]), demand(0, [1, 1]), observe(0, 5), observe(0, 1),
            period([1, 2, 3]), requests(5, [1]), clear(),
        ])
        before = list(calls)
        answers(calls)
        self.assertEqual(calls, before)

    def test_not_changed_for_a_while_either(self):
        class Watched(list):
            def refuse(self, *args):
                raise AssertionError("the list that was handed in was to be changed")

            append = extend = insert = pop = remove = reverse = sort = clear = refuse
            __setitem__ = __delitem__ = __iadd__ = __imul__ = refuse

        calls = flat([
            new(5, [9, 8]), demand(0, [1, 1]), observe(0, 5), mean([2]), play([1, 2]), known([1, 2]), meanknown(),
            chance(0, 5), asked(0), period([1, 2, 3]), spanvalue(1, 5), accept(1, 5), requests(5, [1]), shown(),
            clear(), period([1, 2, 3]),
        ])
        self.assertEqual(answers(Watched(calls)), answers(calls))

    def test_two_lists_answer_as_each_would_alone(self):
        first = flat([new(5, [9, 8]), demand(0, [1, 1]), value(1, 5)])
        second = flat([value(0, 0), protections(), new(5, [9, 8]), value(1, 5), observe(0, 0)])
        due_first = [1, 0, 1, 0, 3, 0, 9, 2]
        due_second = [1, -3, 1, -3, 1, 0, 3, 0, 0, 1, 2, 0, 2]
        for calls, due in ((first, due_first), (second, due_second), (second, due_second), (first, due_first)):
            self.assertEqual(answers(calls), due)

    def test_no_periods_are_kept_for_the_next_list(self):
        first = flat([new(1, [9]), period([1, 1]), period([1, 0]), shown(), spanvalue(2, 1)])
        second = flat([shown(), spanvalue(0, 0), new(1, [9]), shown(), spanvalue(1, 1), period([0, 1]), accept(1, 1)])
        due_first = [1, 0, 2, 0, 1, 2, 0, 2, 5, 0, 1, 1, 2, 9, 3, 0, 9, 1]
        due_second = [1, -3, 1, -3, 1, 0, 5, 0, 1, 1, 0, 9, 1, -9, 2, 0, 1, 2, 0, 1]
        for calls, due in ((first, due_first), (second, due_second), (second, due_second), (first, due_first)):
            self.assertEqual(answers(calls), due)

    def test_what_was_given_back_may_be_changed(self):
        calls = flat([new(5, [9, 8]), demand(0, [1, 1]), play([1, 2])])
        due = list(answers(calls))
        answers(calls).clear()
        self.assertEqual(answers(calls), due)


if __name__ == "__main__":
    unittest.main()
