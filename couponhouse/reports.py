"""The calls that only ask: credit, ticket, heaps, lifted, on, valid, tickets."""

from couponhouse.checks import is_right, ticket_refusal
from couponhouse.records import FLOWN, RUN_OUT, taxes_of, values_of, worths_of
from couponhouse.refusals import GRANTED, WRONG_CREDIT


def tell_credit(house, credit_id):
    if credit_id > len(house.credit_table):
        return [WRONG_CREDIT]
    credit = house.credit_table[credit_id - 1]
    return [GRANTED, credit.passenger, credit.amount, credit.last]


def tell_ticket(house, number):
    refused = ticket_refusal(house, number)
    if refused != GRANTED:
        return [refused]
    ticket = house.ticket_of[number]
    told = [GRANTED, ticket.passenger, ticket.issued, ticket.last]
    for coupon in ticket.coupons:
        told.extend([coupon.carrier, coupon.num, coupon.day, coupon.origin, coupon.goal])
        told.extend([coupon.value, coupon.tax, coupon.status, 1 if coupon.free else 0])
    return told


def tell_heaps(house):
    coupons = all_coupons(house)
    flown = [coupon for coupon in coupons if coupon.status == FLOWN]
    taxed = [coupon for coupon in coupons if coupon.status in (FLOWN, RUN_OUT)]
    living = [coupon for coupon in coupons if not coupon.has_ended()]
    owed = worths_of(living) + sum([credit.amount for credit in house.credit_table])
    return [GRANTED, house.cash_in, house.cash_out, values_of(flown), house.kept, taxes_of(taxed), owed]


def tell_lifted(house, carrier):
    coupons = all_coupons(house)
    return [GRANTED, values_of([coupon for coupon in coupons if is_lifted_by(coupon, carrier)])]


def is_lifted_by(coupon, carrier):
    return coupon.carrier == carrier and coupon.status == FLOWN


def all_coupons(house):
    found = []
    for ticket in house.tickets:
        found.extend(ticket.coupons)
    return found


def tell_on(house, carrier, num, day):
    flight = (carrier, num, day)
    told = [GRANTED]
    for ticket in house.tickets:
        for n, coupon in enumerate(ticket.coupons):
            if coupon.flight() == flight and is_or_was_on(coupon):
                told.extend([ticket.number, n, coupon.status])
    return told


def is_or_was_on(coupon):
    return coupon.status == FLOWN or not coupon.has_ended()


def tell_valid(number):
    return [GRANTED, 1 if is_right(number) else 0]


def tell_tickets(house):
    return [GRANTED] + [ticket.number for ticket in house.tickets]
