"""The ranges of form numbers, and the call stock."""

from couponhouse.checks import check_digit
from couponhouse.refusals import GRANTED, TABLE_FULL, WRONG_FORMS

MOST_RANGES = 8


def stock(house, lo, hi):
    if hi < lo or any([lo <= old[1] and old[0] <= hi for old in house.ranges]):
        return [WRONG_FORMS]
    if len(house.ranges) >= MOST_RANGES:
        return [TABLE_FULL]
    house.ranges.append((lo, hi))
    return [GRANTED, forms_left(house)]


def forms_left(house):
    # Each ticket takes one form for good, so the tickets count the forms that are taken.
    return sum([hi - lo + 1 for lo, hi in house.ranges]) - len(house.tickets)


def next_ticket_number(house):
    """The number that the next form gives; only asked while a form is left."""
    ahead = len(house.tickets)
    form = 0
    for lo, hi in house.ranges:
        if lo + ahead <= hi:
            form = lo + ahead
            break
        ahead = ahead - (hi - lo + 1)
    return 10 * form + check_digit(form)
