"""The calls as they stand in the one list, and the ranges of their numbers."""

CLOCK = 0
STOCK = 1
ISSUE = 2
VOID = 3
USE = 4
DEPART = 5
CANCEL = 6
REVALIDATE = 7
SUSPEND = 8
EXCHANGE = 9
REFUND = 10
CREDIT = 11
TICKET = 12
HEAPS = 13
LIFTED = 14
ON = 15
VALID = 16

# The plain arguments of each call, by the call's place.
PLAIN = (
    ("day",),
    ("form", "form"),
    ("passenger", "day"),
    ("number",),
    ("verb", "carrier", "number", "place"),
    ("carrier", "num", "day"),
    ("carrier", "num", "day"),
    ("number", "place", "num", "day"),
    ("number", "place", "switch"),
    ("amount", "mode", "day"),
    ("number", "amount"),
    ("credit",),
    ("number",),
    (),
    ("carrier",),
    ("carrier", "num", "day"),
    ("number",),
    (),
)

# The lists behind the plain arguments, for the calls that have some.
ROWS = {
    2: ("new coupons", "credits"),
    9: ("old coupons", "new coupons"),
    10: ("places",),
}

RANGES = {
    "amount": (0, 1000000000),
    "airport": (0, 17575),
    "carrier": (0, 675),
    "credit": (1, 64),
    "day": (0, 36524),
    "form": (1, 999999999),
    "mode": (0, 2),
    "num": (1, 9999),
    "number": (10, 9999999999),
    "passenger": (1, 1000000000),
    "place": (0, 3),
    "switch": (0, 1),
    "verb": (1, 6),
}

ROW_LENGTHS = {
    "new coupons": (7, 14, 21, 28),
    "old coupons": (2, 4, 6, 8, 10, 12, 14, 16),
    "credits": (0, 1, 2, 3, 4),
    "places": (1, 2, 3, 4),
}

# What a row's numbers are, over and over again up to the row's end.
ROW_FIELDS = {
    "new coupons": ("carrier", "num", "day", "airport", "airport", "amount", "amount"),
    "old coupons": ("number", "place"),
    "credits": ("credit",),
    "places": ("place",),
}


def read_calls(numbers):
    """The calls in their order, each a tuple of its place, its plain arguments and its rows."""
    found = []
    at = 0
    while at < len(numbers):
        place = numbers[at]
        rows_at = at + 1 + len(PLAIN[place])
        plain = numbers[at + 1:rows_at]
        rows = read_rows(numbers, rows_at, len(ROWS.get(place, ())))
        found.append((place, plain, rows))
        # Each row has its count before it.
        at = rows_at + sum([1 + len(row) for row in rows])
    return found


def read_rows(numbers, at, many):
    rows = []
    while len(rows) < many:
        behind = at + 1 + numbers[at]
        rows.append(numbers[at + 1:behind])
        at = behind
    return rows


def is_in_ranges(place, plain, rows):
    if not all([is_in_range(name, number) for name, number in zip(PLAIN[place], plain)]):
        return False
    return all([is_row_as_told(name, row) for name, row in zip(ROWS.get(place, ()), rows)])


def is_row_as_told(name, row):
    if len(row) not in ROW_LENGTHS[name]:
        return False
    fields = ROW_FIELDS[name]
    return all([is_in_range(fields[k % len(fields)], number) for k, number in enumerate(row)])


def is_in_range(name, number):
    bounds = RANGES[name]
    return bounds[0] <= number <= bounds[1]
