"""Calls as short words, and a test case that watches the house between calls."""

import unittest

from couponhouse.calls import read_calls
from couponhouse.house import answer_to, answers
from couponhouse.records import Credit, House

OPEN, CONTROLLED, CHECKED_IN, BOARDED, FLOWN = 0, 1, 2, 3, 4
EXCHANGED, REFUNDED, VOIDED, RUN_OUT, SUSPENDED = 5, 6, 7, 8, 9
ASKING = range(11, 18)
ENDED = (FLOWN, EXCHANGED, REFUNDED, VOIDED, RUN_OUT)

TO_CREDIT, TO_CASH, TO_KEEP = 0, 1, 2

TAKE, GIVE_UP, CHECK_IN, TAKE_OFF, BOARD, TAKE_OFF_BOARD = 1, 2, 3, 4, 5, 6


def clock(day):
    return [0, day]


def stock(lo, hi):
    return [1, lo, hi]


def leg(carrier=3, num=12, day=10, origin=1, goal=2, value=100, tax=7):
    return [carrier, num, day, origin, goal, value, tax]


def issue(legs, passenger=5, last=30, credit_ids=()):
    row = [number for one in legs for number in one]
    return issue_row(row, passenger, last, credit_ids)


def issue_row(row, passenger=5, last=30, credit_ids=()):
    return [2, passenger, last, len(row), *row, len(credit_ids), *credit_ids]


def void(number):
    return [3, number]


def use(verb, number, n=0, carrier=3):
    return [4, verb, carrier, number, n]


def depart(carrier=3, num=12, day=10):
    return [5, carrier, num, day]


def cancel(carrier=3, num=12, day=10):
    return [6, carrier, num, day]


def revalidate(number, n=0, num=13, day=11):
    return [7, number, n, num, day]


def suspend(number, n=0, s=1):
    return [8, number, n, s]


def exchange(old, legs, penalty=0, mode=TO_CREDIT, last=30):
    row = [number for one in legs for number in one]
    return exchange_rows([number for pair in old for number in pair], row, penalty, mode, last)


def exchange_rows(old_row, new_row, penalty=0, mode=TO_CREDIT, last=30):
    return [9, penalty, mode, last, len(old_row), *old_row, len(new_row), *new_row]


def refund(number, places, penalty=0):
    return [10, number, penalty, len(places), *places]


def credit(credit_id):
    return [11, credit_id]


def ticket(number):
    return [12, number]


def heaps():
    return [13]


def lifted(carrier=3):
    return [14, carrier]


def on(carrier=3, num=12, day=10):
    return [15, carrier, num, day]


def valid(number):
    return [16, number]


def tickets():
    return [17]


def number_of(form):
    return 10 * form + form % 7


def split_answers(told):
    found = []
    at = 0
    while at < len(told):
        many = told[at]
        found.append(told[at + 1:at + 1 + many])
        at += 1 + many
    return found


def run(*calls):
    return split_answers(answers([number for call in calls for number in call]))


class HouseCase(unittest.TestCase):
    """Looks on at each call: a refusal changes nothing, and the money always adds up."""

    def setUp(self):
        self.begin_anew()

    def begin_anew(self):
        self.house = House()
        self.calls = []
        self.told = []
        self.reached_in = False
        self.forced = False
        self.tally = Tally()

    def tearDown(self):
        self.compare_with_answers()

    def compare_with_answers(self):
        """The way in tells of the same calls what the case was told one by one."""
        if self.calls and not self.reached_in:
            self.assertEqual(run(*self.calls), self.told)

    def ask(self, call):
        before = picture(self.house)
        seen = look_round(self.house)
        answer = answer_of(self.house, call)
        self.calls.append(call)
        self.told.append(answer)
        if answer[0] < 0:
            self.assertEqual(len(answer), 1)
        if answer[0] < 0 or call[0] in ASKING:
            self.assertEqual(picture(self.house), before)
            self.assertEqual(look_round(self.house), seen)
        else:
            self.tally.note(call[0], answer[1:])
        self.assert_money_adds_up()
        return answer

    def does(self, call, *rest):
        self.assertEqual(self.ask(call), [0, *rest])

    def refuses(self, refusal, call):
        self.assertEqual(self.ask(call), [refusal])

    def sell(self, *legs, **others):
        answer = self.ask(issue(legs, **others))
        self.assertEqual(answer[0], 0)
        return answer[1]

    def bring(self, number, n, status, carrier=3):
        """Uses an open coupon until it has this status."""
        for verb in (TAKE, CHECK_IN, BOARD)[:status]:
            self.does(use(verb, number, n, carrier))

    def force(self, number, n, status):
        """For the statuses that no call leads to from here."""
        self.reached_in = True
        self.forced = True
        self.coupon(number, n).status = status

    def add_credit(self, passenger, amount, last):
        """As if a passenger had paid it in; gives back its id."""
        self.reached_in = True
        self.house.credit_table.append(Credit(passenger, amount, last))
        self.house.cash_in += amount
        self.tally.cash_in += amount
        return len(self.house.credit_table)

    def earn(self, amount, passenger=5):
        """A credit that calls made: all of a ticket's worth, for a ticket worth nothing.

        That ticket's one coupon runs out behind today. Given back is the credit's id.
        """
        day = self.house.today
        number = self.sell(leg(num=9999, day=day, value=amount, tax=0), passenger=passenger, last=day)
        answer = self.ask(exchange([(number, 0)], [leg(num=9999, day=day, value=0, tax=0)], last=day))
        self.assertEqual(answer[0], 0)
        self.assertEqual(answer[2:4] + answer[5:], [0, 0, amount, 0])
        return answer[4]

    def amounts(self):
        return [credit.amount for credit in self.house.credit_table]

    def coupon(self, number, n=0):
        return self.house.ticket_of[number].coupons[n]

    def statuses(self, number):
        return [coupon.status for coupon in self.house.ticket_of[number].coupons]

    def marks(self, number):
        return [coupon.free for coupon in self.house.ticket_of[number].coupons]

    def assert_heaps(self, cash_in=0, cash_out=0, kept=0):
        told = answer_of(self.house, heaps())
        self.assertEqual((told[1], told[2], told[4]), (cash_in, cash_out, kept))

    def assert_money_adds_up(self):
        """What heaps tells is what the calls told one by one, and no unit of money is lost."""
        if self.forced:
            return
        told = answer_of(self.house, heaps())
        tally = self.tally
        self.assertEqual(told[:6], [0, tally.cash_in, tally.cash_out, tally.lifted, tally.kept, tally.due])
        self.assertEqual(told[6], owed_by(self.house))
        self.assertEqual(told[1] - told[2], sum(told[3:]))


class Tally:
    """The heaps as the answers tell them, added up call by call."""

    def __init__(self):
        self.cash_in = self.cash_out = self.lifted = self.kept = self.due = 0

    def note(self, place, told):
        if place == 0:
            self.kept += told[1] + told[4]
            self.due += told[2]
        elif place == 2:
            self.cash_in += told[1]
        elif place == 3:
            self.cash_out += told[0]
        elif place == 5:
            self.lifted += told[1]
            self.due += told[2]
        elif place == 9:
            self.cash_in += told[1]
            self.cash_out += told[2]
            self.kept += told[5]
        elif place == 10:
            self.cash_out += told[0]
            self.kept += told[1]


def answer_of(house, call):
    place, plain, rows = read_calls(call)[0]
    return answer_to(house, place, plain, rows)


def coupons_told(house):
    """Each coupon's nine numbers, as the call ticket tells them."""
    found = []
    for number in answer_of(house, tickets())[1:]:
        told = answer_of(house, ticket(number))[4:]
        found += [told[at:at + 9] for at in range(0, len(told), 9)]
    return found


def owed_by(house):
    living = sum(one[5] + one[6] for one in coupons_told(house) if one[7] not in ENDED)
    return living + sum(answer_of(house, credit(k + 1))[2] for k in range(len(house.credit_table)))


def look_round(house):
    """All that the calls that only ask tell of the house."""
    found = [answer_of(house, heaps()), answer_of(house, tickets())]
    found += [answer_of(house, ticket(number)) for number in found[1][1:]]
    found += [answer_of(house, credit(k + 1)) for k in range(len(house.credit_table) + 1) if k < 64]
    flights = sorted({tuple(one[:3]) for one in coupons_told(house)})
    found += [answer_of(house, on(*flight)) for flight in flights]
    return found + [answer_of(house, lifted(carrier)) for carrier in sorted({flight[0] for flight in flights})]


def picture(thing):
    """All that a thing holds, as lists and tuples that can be compared."""
    if isinstance(thing, (list, tuple)):
        return [picture(part) for part in thing]
    if isinstance(thing, dict):
        return [(key, picture(part)) for key, part in thing.items()]
    if hasattr(thing, "__dict__"):
        return picture(vars(thing))
    return thing
