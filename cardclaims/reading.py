"""Reading calls out of one list of numbers, and whether their numbers are in range."""

HIGHEST_CARD = 51

# For each call, by its number: the greatest that each of its whole numbers may be (the least is
# 0), how many rows it has, and how many cards a row of it may have.
FORMS = (
    ((4, 3), 4, 4),
    ((51,), 0, 0),
    ((), 0, 0),
    ((), 0, 0),
    ((1, 2), 1, 16),
    ((1, 4, 2), 1, 16),
    ((), 0, 0),
    ((1, 2), 1, 16),
    ((1,), 0, 0),
    ((1, 4, 2), 1, 16),
    ((1, 2), 1, 16),
    ((), 0, 0),
    ((), 0, 0),
    ((1, 2), 1, 16),
    ((), 0, 0),
)


class Call:
    """A call: its number, its whole numbers, its rows, and the place behind it in the list."""

    def __init__(self, number, numbers, rows, end):
        self.number = number
        self.numbers = numbers
        self.rows = rows
        self.end = end


def call_at(calls, place):
    """The call that begins at this place of the list."""
    form = FORMS[calls[place]]
    end = place + 1 + len(form[0])
    numbers = calls[place + 1:end]
    rows = []
    while len(rows) < form[1]:
        first = end + 1
        end = first + calls[end]
        rows.append(calls[first:end])
    return Call(calls[place], numbers, rows, end)


def row_in_range(row, longest):
    """Whether a row is short enough and has cards alone."""
    return len(row) <= longest and all([0 <= card <= HIGHEST_CARD for card in row])


def in_range(call):
    """Whether every number of the call is in its range and no row has too many."""
    form = FORMS[call.number]
    for number, top in zip(call.numbers, form[0]):
        if not 0 <= number <= top:
            return False
    return all([row_in_range(row, form[2]) for row in call.rows])
