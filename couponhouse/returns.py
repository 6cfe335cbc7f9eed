"""The calls that take coupons back: exchange and refund."""

from couponhouse.checks import coupon_refusal, may_all_be_issued
from couponhouse.records import Credit, EXCHANGED, OPEN, REFUNDED, Ticket, values_of, worths_of
from couponhouse.refusals import GRANTED, NOT_ALLOWED, NOT_ISSUABLE, TABLE_FULL, TWICE_OR_UNLIKE, WRONG_FORMS
from couponhouse.sales import MOST_TICKETS, add_ticket, new_coupons
from couponhouse.stocks import forms_left, next_ticket_number

MOST_CREDITS = 64
CREDIT_DAYS = 365
LAST_OF_DAYS = 36524

TO_CREDIT = 0
TO_CASH = 1
TO_KEEP = 2


def exchange(house, penalty, mode, last, old_row, new_row):
    named = [(old_row[at], old_row[at + 1]) for at in range(0, len(old_row), 2)]
    refused = named_refusal(house, named)
    if refused != GRANTED:
        return [refused]
    old = named_coupons(house, named)
    new = new_coupons(new_row)
    charged = 0 if all([coupon.free for coupon in old]) else penalty
    unpaid = worths_of(new) + charged - worths_of(old)
    cash = max(unpaid, 0)
    rest = max(-unpaid, 0)
    refused = exchange_refusal(house, named, new, last, mode == TO_CREDIT and rest > 0)
    if refused != GRANTED:
        return [refused]
    for coupon in old:
        coupon.status = EXCHANGED
    passenger = passengers(house, named)[0]
    ticket = Ticket(next_ticket_number(house), passenger, house.today, last, new, cash, [], True)
    add_ticket(house, ticket)
    house.cash_in = house.cash_in + cash
    house.kept = house.kept + charged
    return [GRANTED, ticket.number, cash] + settle_rest(house, passenger, mode, rest, charged)


def exchange_refusal(house, named, new, last, makes_credit):
    if is_any_twice(named) or len(set(passengers(house, named))) > 1:
        return TWICE_OR_UNLIKE
    if not may_all_be_issued(house, new, last):
        return NOT_ISSUABLE
    if len(house.tickets) >= MOST_TICKETS:
        return TABLE_FULL
    if makes_credit and len(house.credit_table) >= MOST_CREDITS:
        return TABLE_FULL
    if forms_left(house) == 0:
        return WRONG_FORMS
    return GRANTED


def settle_rest(house, passenger, mode, rest, charged):
    """Gives the rest where the mode says; tells the cash out, the credit's id and amount, all that was kept."""
    if mode == TO_CASH:
        house.cash_out = house.cash_out + rest
        return [rest, 0, 0, charged]
    if mode == TO_KEEP:
        house.kept = house.kept + rest
        return [0, 0, 0, charged + rest]
    if rest == 0:
        return [0, 0, 0, charged]
    house.credit_table.append(Credit(passenger, rest, min(house.today + CREDIT_DAYS, LAST_OF_DAYS)))
    return [0, len(house.credit_table), rest, charged]


def refund(house, number, penalty, places):
    named = [(number, n) for n in places]
    refused = named_refusal(house, named)
    if refused != GRANTED:
        return [refused]
    if is_any_twice(named):
        return [TWICE_OR_UNLIKE]
    coupons = named_coupons(house, named)
    kept = min(penalty, values_of([coupon for coupon in coupons if not coupon.free]))
    cash = worths_of(coupons) - kept
    for coupon in coupons:
        coupon.status = REFUNDED
    house.kept = house.kept + kept
    house.cash_out = house.cash_out + cash
    return [GRANTED, cash, kept]


def named_refusal(house, named):
    """The first refusal among the named coupons, each looked at whole before the next one."""
    for number, n in named:
        refused = coupon_refusal(house, number, n)
        if refused != GRANTED:
            return refused
        if house.ticket_of[number].coupons[n].status != OPEN:
            return NOT_ALLOWED
    return GRANTED


def named_coupons(house, named):
    return [house.ticket_of[number].coupons[n] for number, n in named]


def passengers(house, named):
    return [house.ticket_of[number].passenger for number, n in named]


def is_any_twice(named):
    return len(set(named)) != len(named)
