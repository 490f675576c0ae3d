"""Mean revenues and the seats to be kept, exactly, in whole numbers alone."""


# What x seats left are worth is above[x] divided by below. All stand over one line,
# so that they are compared and added without fractions.
class Worth:
    def __init__(self, above, below):
        self.above = above
        self.below = below


def no_worth(seats):
    return Worth([0] * (seats + 1), 1)


def common_divisor(a, b):
    while b > 0:
        rest = a % b
        a = b
        b = rest
    return a


# 0 needs no case of its own: the common divisor of 0 and below is below.
def lowest_terms(above, below):
    shared = common_divisor(above, below)
    return [above // shared, below // shared]


def sold_of(asked, left, kept):
    return min(asked, max(left - kept, 0))


# What a seat sold now brings (gain) and what seats bring later stand over the same line;
# the sum by weights then stands over that line times the sum of the weights.
def best_sum(gain, weights, later, x):
    best = later[x]
    total = 0
    for d, weight in enumerate(weights):
        # Whoever asks for d seats may be sold fewer, so the best for d - 1 still counts.
        if d <= x:
            best = max(best, d * gain + later[x - d])
        total += weight * best
    return total


# As best_sum, but what is sold is told by the seats that are kept.
def kept_sum(gain, weights, later, x, kept):
    total = 0
    for d, weight in enumerate(weights):
        sold = sold_of(d, x, kept)
        total += weight * (sold * gain + later[x - sold])
    return total


# One Worth for each class i: what seats are worth, sold best, to the classes 0 to i.
# Class 0 comes first here, though it asks last, as each class builds on those after it in time.
def best_worths(fares, weights, seats):
    worths = []
    later = no_worth(seats)
    for fare, chances in zip(fares, weights):
        gain = fare * later.below
        above = [best_sum(gain, chances, later.above, x) for x in range(seats + 1)]
        later = Worth(above, later.below * sum(chances))
        worths.append(later)
    return worths


# kept[i] seats are kept from class i itself, so that class 0 needs no case of its own.
def kept_worth(fares, weights, seats, kept):
    later = no_worth(seats)
    for i, fare in enumerate(fares):
        gain = fare * later.below
        above = [kept_sum(gain, weights[i], later.above, x, kept[i]) for x in range(seats + 1)]
        later = Worth(above, later.below * sum(weights[i]))
    return later


# The greatest such y is asked for, so the search doesn't end at the first y that fails.
def protection(worth, fare):
    kept = 0
    for y in range(1, len(worth.above)):
        if worth.above[y] - worth.above[y - 1] > fare * worth.below:
            kept = y
    return kept


# Nothing is kept for the last class, as none asks before it.
def best_kept(fares, weights, seats):
    worths = best_worths(fares[:-1], weights[:-1], seats)
    return [protection(worth, fare) for worth, fare in zip(worths, fares[1:])]
