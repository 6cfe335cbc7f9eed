"""The way in: a list of calls, and what they answer."""

from couponhouse.calls import CANCEL, CLOCK, DEPART, EXCHANGE, ISSUE, REFUND, REVALIDATE, STOCK, SUSPEND, USE, VOID
from couponhouse.calls import CREDIT, HEAPS, LIFTED, ON, TICKET, VALID
from couponhouse.calls import is_in_ranges, read_calls
from couponhouse.clocks import clock
from couponhouse.coupons import revalidate, suspend, use
from couponhouse.flights import cancel, depart
from couponhouse.records import House
from couponhouse.refusals import OUT_OF_RANGE
from couponhouse.reports import tell_credit, tell_heaps, tell_lifted, tell_on, tell_ticket, tell_tickets, tell_valid
from couponhouse.returns import exchange, refund
from couponhouse.sales import issue, void
from couponhouse.stocks import stock


def answers(calls):
    """The answers to the calls on a new house, each with how many numbers it has before it."""
    house = House()
    told = []
    for place, plain, rows in read_calls(calls):
        answer = answer_to(house, place, plain, rows)
        told.append(len(answer))
        told.extend(answer)
    return told


def answer_to(house, place, plain, rows):
    if not is_in_ranges(place, plain, rows):
        return [OUT_OF_RANGE]
    return perform(house, place, plain, rows)


def perform(house, place, plain, rows):
    if place == CLOCK:
        return clock(house, plain[0])
    if place == STOCK:
        return stock(house, plain[0], plain[1])
    if place == ISSUE:
        return issue(house, plain[0], plain[1], rows[0], rows[1])
    if place == VOID:
        return void(house, plain[0])
    if place == USE:
        return use(house, plain[0], plain[1], plain[2], plain[3])
    if place == DEPART:
        return depart(house, plain[0], plain[1], plain[2])
    if place == CANCEL:
        return cancel(house, plain[0], plain[1], plain[2])
    if place == REVALIDATE:
        return revalidate(house, plain[0], plain[1], plain[2], plain[3])
    if place == SUSPEND:
        return suspend(house, plain[0], plain[1], plain[2])
    if place == EXCHANGE:
        return exchange(house, plain[0], plain[1], plain[2], rows[0], rows[1])
    if place == REFUND:
        return refund(house, plain[0], plain[1], rows[0])
    return report(house, place, plain)


def report(house, place, plain):
    """The answer to one of the calls that change nothing."""
    if place == CREDIT:
        return tell_credit(house, plain[0])
    if place == TICKET:
        return tell_ticket(house, plain[0])
    if place == HEAPS:
        return tell_heaps(house)
    if place == LIFTED:
        return tell_lifted(house, plain[0])
    if place == ON:
        return tell_on(house, plain[0], plain[1], plain[2])
    if place == VALID:
        return tell_valid(plain[0])
    return tell_tickets(house)
