"""How calls stand in one list of whole numbers, and the ranges of what stands there."""

# For each call, by its place: the lowest and highest of each plain argument; then
# for each row its shortest and longest length and the lowest and highest of its numbers.
FORMS = (
    (((0, 60),), ((1, 8, 1, 1000000),)),
    (((0, 7),), ((1, 21, 0, 1000),)),
    (((0, 7), (0, 20)), ()),
    (((0, 7), (0, 60)), ()),
    (((0, 7), (1, 60)), ()),
    ((), ()),
    (((0, 7), (0, 60), (0, 60)), ()),
    ((), ((1, 8, 0, 60),)),
    ((), ((0, 7, 0, 60),)),
    ((), ((1, 8, 0, 60),)),
    ((), ()),
    (((0, 7), (0, 60)), ()),
    (((0, 7),), ()),
    ((), ((2, 9, 0, 1000),)),
    (((0, 20), (0, 60)), ()),
    (((1, 20), (0, 60)), ()),
    (((0, 60),), ((0, 20, 0, 8),)),
    ((), ()),
    ((), ()),
)


# Its end is where the next call begins: only its own form tells how long a call is.
class Call:
    def __init__(self, place, numbers, rows, end):
        self.place = place
        self.numbers = numbers
        self.rows = rows
        self.end = end


# The rows are slices, and so copies: a plan may keep and change them, the list stays as it is.
def read_call(calls, start):
    place = calls[start]
    form = FORMS[place]
    end = start + 1 + len(form[0])
    numbers = calls[start + 1:end]
    rows = []
    while len(rows) < len(form[1]):
        first = end + 1
        end = first + calls[end]
        rows.append(calls[first:end])
    return Call(place, numbers, rows, end)


# Asks for no plan, as these ranges are looked at before it matters whether there is one.
def in_ranges(call):
    form = FORMS[call.place]
    for number, bounds in zip(call.numbers, form[0]):
        if not bounds[0] <= number <= bounds[1]:
            return False
    for row, bounds in zip(call.rows, form[1]):
        if not bounds[0] <= len(row) <= bounds[1]:
            return False
        if not all([bounds[2] <= number <= bounds[3] for number in row]):
            return False
    return True
