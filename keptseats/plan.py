"""The calls on a plan, one list of them at a time, and their answers."""

from keptseats.forms import in_ranges, read_call
from keptseats.span import is_taken, span_worths
from keptseats.worth import best_kept, best_worths, kept_worth, lowest_terms, sold_of

# The place of the one call that needs no plan.
NEW = 0

# The places of the calls whose first argument is a class.
NAMING_A_CLASS = (1, 2, 3, 4, 6, 11, 12)

MOST_PERIODS = 20


# A plan has at least one class: while there are no fares, there is no plan.
class Plan:
    def __init__(self):
        self.seats = 0
        self.fares = []
        self.weights = []
        self.periods = []


def new(plan, numbers, rows):
    fares = rows[0]
    for higher, lower in zip(fares, fares[1:]):
        if lower >= higher:
            return [-5]
    plan.seats = numbers[0]
    plan.fares = fares
    plan.weights = [[1] for fare in fares]
    plan.periods = []
    return [0]


def demand(plan, numbers, rows):
    if sum(rows[0]) == 0:
        return [-5]
    plan.weights[numbers[0]] = rows[0]
    return [0]


def observe(plan, numbers, rows):
    weights = plan.weights[numbers[0]]
    d = numbers[1]
    if d < len(weights) and weights[d] == 1000:
        return [-6]
    while len(weights) <= d:
        weights.append(0)
    weights[d] += 1
    return [0, sum(weights)]


# The classes behind i and the seats beyond x don't count, so they are left out.
def worth_to(plan, i, x):
    worths = best_worths(plan.fares[:i + 1], plan.weights[:i + 1], x)
    return worths[i]


def value(plan, numbers, rows):
    x = numbers[1]
    if x > plan.seats:
        return [-8]
    worth = worth_to(plan, numbers[0], x)
    return [0] + lowest_terms(worth.above[x], worth.below)


def marginal(plan, numbers, rows):
    x = numbers[1]
    if x > plan.seats:
        return [-8]
    worth = worth_to(plan, numbers[0], x)
    return [0] + lowest_terms(worth.above[x] - worth.above[x - 1], worth.below)


def protections(plan, numbers, rows):
    return [0] + best_kept(plan.fares, plan.weights, plan.seats)


# Kept numbers by the class that they are kept from: from class 0 none are.
def kept_from(kept):
    return [0] + kept


def decide(plan, numbers, rows):
    i = numbers[0]
    x = numbers[1]
    if x > plan.seats:
        return [-8]
    kept = kept_from(best_kept(plan.fares, plan.weights, plan.seats))
    return [0, sold_of(numbers[2], x, kept[i])]


def with_revenue(plan, sold):
    revenue = sum([number * fare for number, fare in zip(sold, plan.fares)])
    return [0] + sold + [revenue]


def play(plan, numbers, rows):
    requested = rows[0]
    classes = len(plan.fares)
    if len(requested) != classes:
        return [-7]
    kept = kept_from(best_kept(plan.fares, plan.weights, plan.seats))
    left = plan.seats
    sold = [0] * classes
    for i in range(classes - 1, -1, -1):
        sold[i] = sold_of(requested[i], left, kept[i])
        left -= sold[i]
    return with_revenue(plan, sold)


def mean(plan, numbers, rows):
    if len(rows[0]) != len(plan.fares) - 1:
        return [-7]
    worth = kept_worth(plan.fares, plan.weights, plan.seats, kept_from(rows[0]))
    return [0] + lowest_terms(worth.above[plan.seats], worth.below)


def known(plan, numbers, rows):
    if len(rows[0]) != len(plan.fares):
        return [-7]
    left = plan.seats
    sold = []
    for requested in rows[0]:
        part = min(requested, left)
        sold.append(part)
        left -= part
    return with_revenue(plan, sold)


# Sold best with all known is as if class 0 came first and nothing were kept: the classes'
# order in time turned round.
def meanknown(plan, numbers, rows):
    fares = list(reversed(plan.fares))
    weights = list(reversed(plan.weights))
    worth = kept_worth(fares, weights, plan.seats, [0] * len(fares))
    return [0] + lowest_terms(worth.above[plan.seats], worth.below)


def chance(plan, numbers, rows):
    weights = plan.weights[numbers[0]]
    return [0] + lowest_terms(sum(weights[numbers[1]:]), sum(weights))


def asked(plan, numbers, rows):
    weights = plan.weights[numbers[0]]
    seats = sum([d * weight for d, weight in enumerate(weights)])
    return [0] + lowest_terms(seats, sum(weights))


def period(plan, numbers, rows):
    weights = rows[0]
    if len(weights) != len(plan.fares) + 1:
        return [-7]
    if sum(weights) == 0:
        return [-5]
    if len(plan.periods) == MOST_PERIODS:
        return [-6]
    plan.periods.append(weights)
    return [0, len(plan.periods)]


# What spanvalue and accept refuse, in its order; 0 if there is nothing to refuse.
def span_refused(plan, t, x):
    if t > len(plan.periods):
        return -9
    if x > plan.seats:
        return -8
    return 0


# The periods behind the t-th and the seats beyond x don't count, so they are left out.
def span_worth(plan, t, x):
    return span_worths(plan.fares, plan.periods[:t], x)[t]


def spanvalue(plan, numbers, rows):
    t = numbers[0]
    x = numbers[1]
    refusal = span_refused(plan, t, x)
    if refusal != 0:
        return [refusal]
    worth = span_worth(plan, t, x)
    return [0] + lowest_terms(worth.above[x], worth.below)


def accept(plan, numbers, rows):
    t = numbers[0]
    x = numbers[1]
    refusal = span_refused(plan, t, x)
    if refusal != 0:
        return [refusal]
    later = span_worth(plan, t - 1, x)
    return [0, len([fare for fare in plan.fares if is_taken(fare, later, x)])]


def requests(plan, numbers, rows):
    left = numbers[0]
    classes = len(plan.fares)
    to_go = len(plan.periods)
    if left > plan.seats:
        return [-8]
    if len(rows[0]) != to_go or any([request > classes for request in rows[0]]):
        return [-7]
    worths = span_worths(plan.fares, plan.periods, left)
    sold = []
    revenue = 0
    for request in rows[0]:
        # A fare is weighed against what the seats bring once the request's own period is over.
        to_go -= 1
        if request < classes and is_taken(plan.fares[request], worths[to_go], left):
            sold.append(1)
            left -= 1
            revenue += plan.fares[request]
        else:
            sold.append(0)
    return [0] + sold + [revenue]


def clear(plan, numbers, rows):
    plan.periods = []
    return [0]


def shown(plan, numbers, rows):
    return [0, plan.seats, len(plan.fares), len(plan.periods)] + plan.fares


# By the calls' places.
HANDLERS = (
    new, demand, observe, value, marginal, protections, decide, play, mean, known,
    meanknown, chance, asked, period, spanvalue, accept, requests, clear, shown,
)


# The refusals that come before the calls' own ones, in their order; 0 if there is none.
def refused(plan, call):
    if not in_ranges(call):
        return -2
    if call.place == NEW:
        return 0
    if len(plan.fares) == 0:
        return -3
    if call.place in NAMING_A_CLASS and call.numbers[0] >= len(plan.fares):
        return -4
    return 0


def answer(plan, call):
    refusal = refused(plan, call)
    if refusal != 0:
        return [refusal]
    handler = HANDLERS[call.place]
    return handler(plan, call.numbers, call.rows)


# The plan is made here and handed on, so that nothing is kept from one list to the next.
def answers(calls):
    plan = Plan()
    answered = []
    start = 0
    while start < len(calls):
        call = read_call(calls, start)
        numbers = answer(plan, call)
        answered.append(len(numbers))
        answered.extend(numbers)
        start = call.end
    return answered
