"""What seats are worth with periods to go, and which classes are taken then."""

from keptseats.worth import Worth, no_worth


# The fares (gains) and what seats bring later stand over the same line, as in keptseats.worth;
# the weights are one more than the gains, and the last of them is for nobody.
def period_sum(gains, weights, later, x):
    total = weights[-1] * later[x]
    for gain, weight in zip(gains, weights):
        total += weight * max(gain + later[x - 1], later[x])
    return total


def period_worth(fares, weights, later):
    gains = [fare * later.below for fare in fares]
    # No request can be sold a seat where there is none, so 0 seats stay worth nothing.
    above = [0] + [period_sum(gains, weights, later.above, x) for x in range(1, len(later.above))]
    return Worth(above, later.below * sum(weights))


# One Worth for each t from 0 on, with t periods to go. The list's first period comes last in
# time, so each period of the list builds on those that stand before it.
def span_worths(fares, periods, seats):
    worths = [no_worth(seats)]
    for weights in periods:
        worths.append(period_worth(fares, weights, worths[-1]))
    return worths


# later: what seats are worth when the request's own period is over.
def is_taken(fare, later, x):
    if x == 0:
        return False
    return fare * later.below >= later.above[x] - later.above[x - 1]
