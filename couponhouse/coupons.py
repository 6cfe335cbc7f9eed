"""The calls on one coupon: use, revalidate, suspend."""

from couponhouse.checks import coupon_refusal, may_be_issued
from couponhouse.records import BOARDED, CHECKED_IN, CONTROLLED, Coupon, OPEN, SUSPENDED
from couponhouse.refusals import FLIGHT_GONE, GRANTED, NOT_ALLOWED, NOT_ISSUABLE, OTHER_CARRIER, OUT_OF_ORDER

CHECK_IN = 3
TAKE_OFF = 4
BOARD = 5


def use(house, verb, carrier, number, n):
    refused = coupon_refusal(house, number, n)
    if refused != GRANTED:
        return [refused]
    coupons = house.ticket_of[number].coupons
    refused = use_refusal(house, verb, carrier, coupons, n)
    if refused != GRANTED:
        return [refused]
    coupon = coupons[n]
    coupon.status = change_by(verb)[1]
    return [GRANTED]


def change_by(verb):
    """The status that the verb wants, and the one that it gives."""
    changes = (
        (OPEN, CONTROLLED),
        (CONTROLLED, OPEN),
        (CONTROLLED, CHECKED_IN),
        (CHECKED_IN, CONTROLLED),
        (CHECKED_IN, BOARDED),
        (BOARDED, CHECKED_IN),
    )
    return changes[verb - 1]


def use_refusal(house, verb, carrier, coupons, n):
    coupon = coupons[n]
    if coupon.carrier != carrier:
        return OTHER_CARRIER
    if coupon.flight() in house.gone:
        return FLIGHT_GONE
    if coupon.status != change_by(verb)[0]:
        return NOT_ALLOWED
    if not is_in_order(verb, coupons[:n], coupons[n + 1:]):
        return OUT_OF_ORDER
    return GRANTED


def is_in_order(verb, earlier, later):
    if verb == CHECK_IN:
        return all([coupon.status in (CHECKED_IN, BOARDED) or coupon.has_ended() for coupon in earlier])
    if verb == TAKE_OFF:
        return all([coupon.status != CHECKED_IN for coupon in later])
    if verb == BOARD:
        return all([coupon.has_ended() for coupon in earlier])
    return True


def revalidate(house, number, n, num, day):
    refused = coupon_refusal(house, number, n)
    if refused != GRANTED:
        return [refused]
    ticket = house.ticket_of[number]
    coupon = ticket.coupons[n]
    if coupon.status != OPEN:
        return [NOT_ALLOWED]
    moved = Coupon(coupon.carrier, num, day, coupon.origin, coupon.goal, coupon.value, coupon.tax)
    if not may_be_issued(house, moved, ticket.last):
        return [NOT_ISSUABLE]
    coupon.num = num
    coupon.day = day
    coupon.free = False
    return [GRANTED]


def suspend(house, number, n, switch):
    refused = coupon_refusal(house, number, n)
    if refused != GRANTED:
        return [refused]
    coupon = house.ticket_of[number].coupons[n]
    wanted = OPEN if switch == 1 else SUSPENDED
    if coupon.status != wanted:
        return [NOT_ALLOWED]
    coupon.status = SUSPENDED if switch == 1 else OPEN
    return [GRANTED]
