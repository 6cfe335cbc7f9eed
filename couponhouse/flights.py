"""The calls on one flight: depart and cancel."""

from couponhouse.records import BOARDED, CHECKED_IN, CONTROLLED, FLOWN, OPEN, SUSPENDED, taxes_of, values_of
from couponhouse.refusals import FLIGHT_GONE, GRANTED, TABLE_FULL

MOST_GONE = 64


def depart(house, carrier, num, day):
    flight = (carrier, num, day)
    refused = leave_refusal(house, flight)
    if refused != GRANTED:
        return [refused]
    house.gone[flight] = True
    flown = coupons_on(house, flight, (BOARDED,))
    left_behind = coupons_on(house, flight, (CHECKED_IN, CONTROLLED))
    release_later(house, flight, (CHECKED_IN, CONTROLLED))
    for coupon in flown:
        coupon.status = FLOWN
    for coupon in left_behind:
        coupon.status = OPEN
    return [GRANTED, len(flown), values_of(flown), taxes_of(flown), len(left_behind)]


def cancel(house, carrier, num, day):
    flight = (carrier, num, day)
    refused = leave_refusal(house, flight)
    if refused != GRANTED:
        return [refused]
    house.gone[flight] = True
    living = (OPEN, CONTROLLED, CHECKED_IN, BOARDED, SUSPENDED)
    lived = coupons_on(house, flight, living)
    release_later(house, flight, living)
    for coupon in lived:
        coupon.free = True
        if coupon.status != SUSPENDED:
            coupon.status = OPEN
    return [GRANTED, len(lived)]


def leave_refusal(house, flight):
    if flight in house.gone:
        return FLIGHT_GONE
    if len(house.gone) >= MOST_GONE:
        return TABLE_FULL
    return GRANTED


def coupons_on(house, flight, statuses):
    found = []
    for ticket in house.tickets:
        found.extend([coupon for coupon in ticket.coupons if is_on(coupon, flight, statuses)])
    return found


def is_on(coupon, flight, statuses):
    return coupon.flight() == flight and coupon.status in statuses


def release_later(house, flight, statuses):
    """Takes check-ins on other flights back, behind the flight's coupons with one of these statuses.

    Nobody stays checked in for a later flight who hasn't flown the earlier one. The flight's own
    coupons must still have the statuses that they had before it was gone.
    """
    for ticket in house.tickets:
        behind = False
        for coupon in ticket.coupons:
            if is_on(coupon, flight, statuses):
                behind = True
            elif behind and coupon.status == CHECKED_IN and coupon.flight() != flight:
                coupon.status = CONTROLLED
