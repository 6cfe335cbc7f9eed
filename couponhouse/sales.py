"""The calls issue and void."""

from couponhouse.checks import may_all_be_issued, ticket_refusal
from couponhouse.records import Coupon, OPEN, Ticket, VOID, worths_of
from couponhouse.refusals import GRANTED, NOT_ALLOWED, NOT_ISSUABLE, TABLE_FULL, WRONG_CREDIT, WRONG_FORMS
from couponhouse.stocks import forms_left, next_ticket_number

MOST_TICKETS = 64
COUPON_FIELDS = 7


def issue(house, passenger, last, row, credit_ids):
    coupons = new_coupons(row)
    refused = issue_refusal(house, passenger, last, coupons, credit_ids)
    if refused != GRANTED:
        return [refused]
    price = worths_of(coupons)
    drawn = draw(house, credit_ids, price)
    cash = price - sum([part for credit, part in drawn])
    ticket = Ticket(next_ticket_number(house), passenger, house.today, last, coupons, cash, drawn, False)
    add_ticket(house, ticket)
    house.cash_in = house.cash_in + cash
    return [GRANTED, ticket.number, cash]


def new_coupons(row):
    coupons = []
    for at in range(0, len(row), COUPON_FIELDS):
        coupon = Coupon(row[at], row[at + 1], row[at + 2], row[at + 3], row[at + 4], row[at + 5], row[at + 6])
        coupons.append(coupon)
    return coupons


def issue_refusal(house, passenger, last, coupons, credit_ids):
    if not may_all_be_issued(house, coupons, last):
        return NOT_ISSUABLE
    if not are_credits_of(house, passenger, credit_ids):
        return WRONG_CREDIT
    if len(house.tickets) >= MOST_TICKETS:
        return TABLE_FULL
    if forms_left(house) == 0:
        return WRONG_FORMS
    return GRANTED


def are_credits_of(house, passenger, credit_ids):
    if len(set(credit_ids)) != len(credit_ids):
        return False
    for credit_id in credit_ids:
        if credit_id > len(house.credit_table) or house.credit_table[credit_id - 1].passenger != passenger:
            return False
    return True


def draw(house, credit_ids, price):
    """Pays as much of the price as the credits hold; gives back pairs of a credit and what it paid."""
    drawn = []
    unpaid = price
    for credit_id in credit_ids:
        credit = house.credit_table[credit_id - 1]
        part = min(credit.amount, unpaid)
        credit.amount = credit.amount - part
        unpaid = unpaid - part
        drawn.append((credit, part))
    return drawn


def add_ticket(house, ticket):
    house.tickets.append(ticket)
    house.ticket_of[ticket.number] = ticket


def void(house, number):
    refused = ticket_refusal(house, number)
    if refused != GRANTED:
        return [refused]
    ticket = house.ticket_of[number]
    if not may_be_voided(house, ticket):
        return [NOT_ALLOWED]
    for coupon in ticket.coupons:
        coupon.status = VOID
    for credit, part in ticket.drawn:
        credit.amount = credit.amount + part
    house.cash_out = house.cash_out + ticket.cash
    return [GRANTED, ticket.cash, sum([part for credit, part in ticket.drawn])]


def may_be_voided(house, ticket):
    if ticket.issued != house.today or ticket.in_exchange:
        return False
    return all([coupon.status == OPEN for coupon in ticket.coupons])
