"""The calls on a plan, one list of them at a time, and their answers."""

from keptseats.forms import in_ranges, read_call
from keptseats.worth import best_kept, best_worths, kept_worth, lowest_terms, sold_of

# The place of the one call that needs no plan.
NEW = 0

# The places of the calls whose first argument is a class.
NAMING_A_CLASS = (1, 2, 3, 4, 6)


# A plan has at least one class: while there are no fares, there is no plan.
class Plan:
    def __init__(self):
        self.seats = 0
        self.fares = []
        self.weights = []


def new(plan, numbers, rows):
    fares = rows[0]
    for higher, lower in zip(fares, fares[1:]):
        if lower >= higher:
            return [-5]
    plan.seats = numbers[0]
    plan.fares = fares
    plan.weights = [[1] for fare in fares]
    return [0]


def demand(plan, numbers, rows):
    if sum(rows[0]) == 0:
        return [-5]
    plan.weights[numbers[0]] = rows[0]
    return [0]


def observe(plan, numbers, rows):
    weights = plan.weights[numbers[0]]
    d = numbers[1]
    if d < len(weights) and weights[d] == 1000:
        return [-6]
    while len(weights) <= d:
        weights.append(0)
    weights[d] += 1
    return [0, sum(weights)]


# The classes behind i and the seats beyond x don't count, so they are left out.
def worth_to(plan, i, x):
    worths = best_worths(plan.fares[:i + 1], plan.weights[:i + 1], x)
    return worths[i]


def value(plan, numbers, rows):
    x = numbers[1]
    if x > plan.seats:
        return [-8]
    worth = worth_to(plan, numbers[0], x)
    return [0] + lowest_terms(worth.above[x], worth.below)


def marginal(plan, numbers, rows):
    x = numbers[1]
    if x > plan.seats:
        return [-8]
    worth = worth_to(plan, numbers[0], x)
    return [0] + lowest_terms(worth.above[x] - worth.above[x - 1], worth.below)


def protections(plan, numbers, rows):
    return [0] + best_kept(plan.fares, plan.weights, plan.seats)


# Kept numbers by the class that they are kept from: from class 0 none are.
def kept_from(kept):
    return [0] + kept


def decide(plan, numbers, rows):
    i = numbers[0]
    x = numbers[1]
    if x > plan.seats:
        return [-8]
    kept = kept_from(best_kept(plan.fares, plan.weights, plan.seats))
    return [0, sold_of(numbers[2], x, kept[i])]


def with_revenue(plan, sold):
    revenue = sum([number * fare for number, fare in zip(sold, plan.fares)])
    return [0] + sold + [revenue]


def play(plan, numbers, rows):
    asked = rows[0]
    classes = len(plan.fares)
    if len(asked) != classes:
        return [-7]
    kept = kept_from(best_kept(plan.fares, plan.weights, plan.seats))
    left = plan.seats
    sold = [0] * classes
    for i in range(classes - 1, -1, -1):
        sold[i] = sold_of(asked[i], left, kept[i])
        left -= sold[i]
    return with_revenue(plan, sold)


def mean(plan, numbers, rows):
    if len(rows[0]) != len(plan.fares) - 1:
        return [-7]
    worth = kept_worth(plan.fares, plan.weights, plan.seats, kept_from(rows[0]))
    return [0] + lowest_terms(worth.above[plan.seats], worth.below)


def known(plan, numbers, rows):
    if len(rows[0]) != len(plan.fares):
        return [-7]
    left = plan.seats
    sold = []
    for asked in rows[0]:
        part = min(asked, left)
        sold.append(part)
        left -= part
    return with_revenue(plan, sold)


# By the calls' places.
HANDLERS = (new, demand, observe, value, marginal, protections, decide, play, mean, known)


# The refusals that come before the calls' own ones, in their order; 0 if there is none.
def refused(plan, call):
    if not in_ranges(call):
        return -2
    if call.place == NEW:
        return 0
    if len(plan.fares) == 0:
        return -3
    if call.place in NAMING_A_CLASS and call.numbers[0] >= len(plan.fares):
        return -4
    return 0


def answer(plan, call):
    refusal = refused(plan, call)
    if refusal != 0:
        return [refusal]
    handler = HANDLERS[call.place]
    return handler(plan, call.numbers, call.rows)


# The plan is made here and handed on, so that nothing is kept from one list to the next.
def answers(calls):
    plan = Plan()
    answered = []
    start = 0
    while start < len(calls):
        call = read_call(calls, start)
        numbers = answer(plan, call)
        answered.append(len(numbers))
        answered.extend(numbers)
        start = call.end
    return answered
