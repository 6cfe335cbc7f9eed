"""Calls as short words, and a test case that watches the house between calls."""

import copy
import unittest

from couponhouse.calls import read_calls
from couponhouse.house import answer_to, answers
from couponhouse.records import Credit, House

OPEN, CONTROLLED, CHECKED_IN, BOARDED, FLOWN = 0, 1, 2, 3, 4
EXCHANGED, REFUNDED, VOIDED, RUN_OUT, SUSPENDED = 5, 6, 7, 8, 9
ENDED = (FLOWN, EXCHANGED, REFUNDED, VOIDED, RUN_OUT)

TAKE, GIVE_UP, CHECK_IN, TAKE_OFF, BOARD, TAKE_OFF_BOARD = 1, 2, 3, 4, 5, 6


def clock(day):
    return [0, day]


def stock(lo, hi):
    return [1, lo, hi]


def leg(carrier=3, num=12, day=10, origin=1, goal=2, value=100, tax=7):
    return [carrier, num, day, origin, goal, value, tax]


def issue(legs, passenger=5, last=30, credit_ids=()):
    row = [number for one in legs for number in one]
    return issue_row(row, passenger, last, credit_ids)


def issue_row(row, passenger=5, last=30, credit_ids=()):
    return [2, passenger, last, len(row), *row, len(credit_ids), *credit_ids]


def void(number):
    return [3, number]


def use(verb, number, n=0, carrier=3):
    return [4, verb, carrier, number, n]


def depart(carrier=3, num=12, day=10):
    return [5, carrier, num, day]


def cancel(carrier=3, num=12, day=10):
    return [6, carrier, num, day]


def revalidate(number, n=0, num=13, day=11):
    return [7, number, n, num, day]


def suspend(number, n=0, s=1):
    return [8, number, n, s]


def number_of(form):
    return 10 * form + form % 7


def split_answers(told):
    found = []
    at = 0
    while at < len(told):
        many = told[at]
        found.append(told[at + 1:at + 1 + many])
        at += 1 + many
    return found


def run(*calls):
    return split_answers(answers([number for call in calls for number in call]))


class HouseCase(unittest.TestCase):
    """Looks on at each call: a refusal changes nothing, and the money always adds up."""

    def setUp(self):
        self.begin_anew()

    def begin_anew(self):
        self.house = House()
        self.calls = []
        self.told = []
        self.reached_in = False
        self.forced = False

    def tearDown(self):
        self.compare_with_answers()

    def compare_with_answers(self):
        """The way in tells of the same calls what the case was told one by one."""
        if self.calls and not self.reached_in:
            self.assertEqual(run(*self.calls), self.told)

    def ask(self, call):
        before = copy.deepcopy(self.house)
        place, plain, rows = read_calls(call)[0]
        answer = answer_to(self.house, place, plain, rows)
        self.calls.append(call)
        self.told.append(answer)
        if answer[0] < 0:
            self.assertEqual(len(answer), 1)
            self.assertEqual(picture(before), picture(self.house))
        self.assert_money_adds_up()
        return answer

    def does(self, call, *rest):
        self.assertEqual(self.ask(call), [0, *rest])

    def refuses(self, refusal, call):
        self.assertEqual(self.ask(call), [refusal])

    def sell(self, *legs, **others):
        answer = self.ask(issue(legs, **others))
        self.assertEqual(answer[0], 0)
        return answer[1]

    def bring(self, number, n, status, carrier=3):
        """Uses an open coupon until it has this status."""
        for verb in (TAKE, CHECK_IN, BOARD)[:status]:
            self.does(use(verb, number, n, carrier))

    def force(self, number, n, status):
        """For the statuses that no call leads to from here."""
        self.reached_in = True
        self.forced = True
        self.coupon(number, n).status = status

    def add_credit(self, passenger, amount, last):
        """As if a passenger had paid it in; gives back its id."""
        self.reached_in = True
        self.house.credit_table.append(Credit(passenger, amount, last))
        self.house.cash_in += amount
        return len(self.house.credit_table)

    def amounts(self):
        return [credit.amount for credit in self.house.credit_table]

    def coupon(self, number, n=0):
        return self.house.ticket_of[number].coupons[n]

    def statuses(self, number):
        return [coupon.status for coupon in self.house.ticket_of[number].coupons]

    def marks(self, number):
        return [coupon.free for coupon in self.house.ticket_of[number].coupons]

    def assert_heaps(self, cash_in=0, cash_out=0, kept=0):
        house = self.house
        self.assertEqual((house.cash_in, house.cash_out, house.kept), (cash_in, cash_out, kept))

    def assert_money_adds_up(self):
        if self.forced:
            return
        house = self.house
        held = house.kept + sum(credit.amount for credit in house.credit_table)
        for coupon in all_coupons(house):
            if coupon.status == FLOWN:
                held += coupon.value + coupon.tax
            elif coupon.status == RUN_OUT:
                held += coupon.tax
            elif coupon.status not in ENDED:
                held += coupon.value + coupon.tax
        self.assertEqual(house.cash_in - house.cash_out, held)


def all_coupons(house):
    return [coupon for ticket in house.tickets for coupon in ticket.coupons]


def picture(thing):
    """All that a thing holds, as lists and tuples that can be compared."""
    if isinstance(thing, (list, tuple)):
        return [picture(part) for part in thing]
    if isinstance(thing, dict):
        return [(key, picture(part)) for key, part in thing.items()]
    if hasattr(thing, "__dict__"):
        return picture(vars(thing))
    return thing
