"""The call clock: a day begins, and what is too old runs out."""

from couponhouse.records import OPEN, RUN_OUT, SUSPENDED, taxes_of, values_of
from couponhouse.refusals import DAY_GOES_BACK, GRANTED


def clock(house, day):
    if day < house.today:
        return [DAY_GOES_BACK]
    house.today = day
    coupons = run_out_coupons(house)
    values = values_of(coupons)
    lost = run_out_credits(house)
    house.kept = house.kept + values + sum(lost)
    return [GRANTED, len(coupons), values, taxes_of(coupons), len(lost), sum(lost)]


def run_out_coupons(house):
    """Ends what is too old; gives back the coupons that ended."""
    ended = []
    for ticket in house.tickets:
        if ticket.last < house.today:
            ended.extend([coupon for coupon in ticket.coupons if coupon.status in (OPEN, SUSPENDED)])
    for coupon in ended:
        coupon.status = RUN_OUT
    return ended


def run_out_credits(house):
    """Empties the credits that are too old; gives back the amounts that were lost."""
    old = [credit for credit in house.credit_table if credit.last < house.today and credit.amount > 0]
    lost = [credit.amount for credit in old]
    for credit in old:
        credit.amount = 0
    return lost
