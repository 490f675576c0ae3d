"""Builds lists of calls for the tests, and takes lists of answers apart."""

from keptseats.plan import answers


def row(numbers):
    return [len(numbers)] + list(numbers)


def new(seats, fares):
    return [0, seats] + row(fares)


def demand(i, weights):
    return [1, i] + row(weights)


def observe(i, d):
    return [2, i, d]


def value(i, x):
    return [3, i, x]


def marginal(i, x):
    return [4, i, x]


def protections():
    return [5]


def decide(i, x, n):
    return [6, i, x, n]


def play(numbers):
    return [7] + row(numbers)


def mean(kept):
    return [8] + row(kept)


def known(numbers):
    return [9] + row(numbers)


def meanknown():
    return [10]


def chance(i, n):
    return [11, i, n]


def asked(i):
    return [12, i]


def period(weights):
    return [13] + row(weights)


def spanvalue(t, x):
    return [14, t, x]


def accept(t, x):
    return [15, t, x]


def requests(x, wanted):
    return [16, x] + row(wanted)


def clear():
    return [17]


def shown():
    return [18]


def flat(calls):
    return [number for call in calls for number in call]


def apart(answered):
    """The answers of one list, one list each; fails if the counts don't fit."""
    parts = []
    at = 0
    while at < len(answered):
        count = answered[at]
        part = answered[at + 1:at + 1 + count]
        assert count >= 1 and len(part) == count, answered
        parts.append(part)
        at += 1 + count
    return parts


def ask(*calls):
    parts = apart(answers(flat(calls)))
    assert len(parts) == len(calls), (len(parts), len(calls))
    return parts


def ask_last(*calls):
    return ask(*calls)[-1]
