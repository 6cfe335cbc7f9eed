"""The calls that only ask: ticket, heaps, lifted, on, valid, tickets."""

from tests.support import BOARDED, CHECKED_IN, CONTROLLED, ENDED, EXCHANGED, FLOWN, HouseCase, OPEN, REFUNDED, RUN_OUT
from tests.support import SUSPENDED, TAKE, TO_CASH, TO_KEEP, VOIDED
from tests.support import cancel, clock, credit, depart, exchange, heaps, leg, lifted, number_of, on, refund
from tests.support import revalidate, run, stock, suspend, ticket, tickets, use, valid, void

MOST = 1000000000


class StockedCase(HouseCase):
    def setUp(self):
        super().setUp()
        self.does(stock(100, 199), 100)


class TicketTest(StockedCase):
    def test_as_issued(self):
        self.does(clock(4), 0, 0, 0, 0, 0)
        legs = [leg(3, 12, 10, 1, 2, 100, 7), leg(0, 1, 4, 17575, 0, 5, 6), leg(675, 9999, 30, 2, 1, 8, 9)]
        number = self.sell(*legs, passenger=77, last=30)
        self.does(ticket(number), 77, 4, 30, *legs[0], OPEN, 0, *legs[1], OPEN, 0, *legs[2], OPEN, 0)

    def test_one_and_four_coupons(self):
        for many in (1, 2, 3, 4):
            number = self.sell(*[leg()] * many)
            self.does(ticket(number), 5, 0, 30, *[*leg(), OPEN, 0] * many)

    def test_each_status(self):
        number = self.sell(leg())
        for status in range(10):
            self.force(number, 0, status)
            self.does(ticket(number), 5, 0, 30, *leg(), status, 0)

    def test_the_mark(self):
        number = self.sell(leg(), leg(num=13))
        self.does(cancel(num=13), 1)
        self.does(ticket(number), 5, 0, 30, *leg(), OPEN, 0, *leg(num=13), OPEN, 1)
        self.does(revalidate(number, 1, 14, 11))
        self.does(ticket(number), 5, 0, 30, *leg(), OPEN, 0, *leg(num=14, day=11), OPEN, 0)

    def test_day_of_issue_stays(self):
        number = self.sell(leg())
        self.does(clock(9), 0, 0, 0, 0, 0)
        self.does(ticket(number), 5, 0, 30, *leg(), OPEN, 0)

    def test_void_ticket(self):
        number = self.sell(leg())
        self.does(void(number), 107, 0)
        self.does(ticket(number), 5, 0, 30, *leg(), VOIDED, 0)

    def test_the_right_ticket_of_several(self):
        for passenger in (1, 2, 3):
            self.sell(leg(value=passenger), passenger=passenger)
        for k, passenger in enumerate((1, 2, 3)):
            self.does(ticket(number_of(100 + k)), passenger, 0, 30, *leg(value=passenger), OPEN, 0)

    def test_wrong_numbers(self):
        self.refuses(-4, ticket(1002))
        self.sell(leg())
        for digit in (0, 1, 3, 4, 5, 6, 7, 8, 9):
            self.refuses(-3, ticket(1000 + digit))
        self.refuses(-4, ticket(1013))

    def test_range_of_number(self):
        for wrong in (9, 0, -1002, 10000000000):
            self.refuses(-2, ticket(wrong))
        self.refuses(-3, ticket(10))
        self.refuses(-3, ticket(9999999999))
        self.refuses(-4, ticket(9999999995))


class HeapsTest(StockedCase):
    def test_nothing_at_first(self):
        self.does(heaps(), 0, 0, 0, 0, 0, 0)
        self.assertEqual(run(heaps()), [[0, 0, 0, 0, 0, 0, 0]])

    def test_each_heap(self):
        flown = self.sell(leg(num=20, value=1, tax=2))
        self.does(heaps(), 3, 0, 0, 0, 0, 3)
        self.bring(flown, 0, BOARDED)
        self.does(heaps(), 3, 0, 0, 0, 0, 3)
        self.does(depart(num=20), 1, 1, 2, 0)
        self.does(heaps(), 3, 0, 1, 0, 2, 0)
        voided = self.sell(leg(value=4, tax=8))
        self.does(heaps(), 15, 0, 1, 0, 2, 12)
        self.does(void(voided), 12, 0)
        self.does(heaps(), 15, 12, 1, 0, 2, 0)
        refunded = self.sell(leg(value=16, tax=32))
        self.does(refund(refunded, [0], 6), 42, 6)
        self.does(heaps(), 63, 54, 1, 6, 2, 0)
        self.sell(leg(value=64, tax=128), last=10)
        self.does(heaps(), 255, 54, 1, 6, 2, 192)
        self.does(clock(11), 1, 64, 128, 0, 0)
        self.does(heaps(), 255, 54, 1, 70, 130, 0)

    def test_each_status(self):
        number = self.sell(leg())
        owed = {FLOWN: (100, 7, 0), RUN_OUT: (0, 7, 0), EXCHANGED: (0, 0, 0), REFUNDED: (0, 0, 0), VOIDED: (0, 0, 0)}
        for status in range(10):
            self.force(number, 0, status)
            told = owed.get(status, (0, 0, 107))
            self.does(heaps(), 107, 0, told[0], 0, told[1], told[2])

    def test_credits_are_owed(self):
        self.earn(40)
        self.does(heaps(), 40, 0, 0, 0, 0, 40)
        self.earn(2, passenger=6)
        self.does(heaps(), 42, 0, 0, 0, 0, 42)
        number = self.sell(leg(value=30, tax=0), credit_ids=[1])
        self.does(heaps(), 42, 0, 0, 0, 0, 42)
        self.does(void(number), 0, 30)
        self.does(heaps(), 42, 0, 0, 0, 0, 42)
        self.does(clock(366), 2, 0, 0, 2, 42)
        self.does(heaps(), 42, 0, 0, 42, 0, 0)

    def test_exchanges(self):
        number = self.sell(leg(), leg(), leg())
        self.does(exchange([(number, 0)], [leg(value=50, tax=0)], 5, TO_CASH), 1013, 0, 52, 0, 0, 5)
        self.does(heaps(), 321, 52, 0, 5, 0, 264)
        self.does(exchange([(number, 1)], [leg(value=50, tax=0)], 5, TO_KEEP), 1024, 0, 0, 0, 0, 57)
        self.does(heaps(), 321, 52, 0, 62, 0, 207)
        self.does(exchange([(number, 2)], [leg(value=200, tax=0)], 5), 1035, 98, 0, 0, 0, 5)
        self.does(heaps(), 419, 52, 0, 67, 0, 300)

    def test_calls_that_move_no_money(self):
        number = self.sell(leg(), leg(num=13))
        before = self.ask(heaps())
        for call in (use(TAKE, number), suspend(number, 1), cancel(), revalidate(number, 0, 14, 11), clock(5)):
            self.assertEqual(self.ask(call)[0], 0)
            self.assertEqual(self.ask(heaps()), before)

    def test_largest_sums(self):
        for k in range(64):
            self.sell(*[leg(value=MOST, tax=MOST)] * 4)
        self.does(heaps(), 512 * MOST, 0, 0, 0, 0, 512 * MOST)


class LiftedTest(StockedCase):
    def test_by_carriers(self):
        number = self.sell(leg(3, 20, value=1), leg(4, 20, value=2), leg(3, 21, value=4))
        other = self.sell(leg(3, 20, value=8))
        for n, carrier in ((0, 3), (1, 4), (2, 3)):
            self.bring(number, n, CHECKED_IN, carrier)
        self.bring(other, 0, BOARDED)
        self.does(lifted(3), 0)
        for n, carrier, num, told in ((0, 3, 20, (9, 0)), (1, 4, 20, (9, 2)), (2, 3, 21, (13, 2))):
            self.does(use(5, number, n, carrier))
            self.assertEqual(self.ask(depart(carrier, num, 10))[0], 0)
            self.does(lifted(3), told[0])
            self.does(lifted(4), told[1])
        self.does(lifted(5), 0)
        self.does(heaps(), 43, 0, 15, 0, 28, 0)

    def test_each_status(self):
        number = self.sell(leg())
        for status in range(10):
            self.force(number, 0, status)
            self.does(lifted(3), 100 if status == FLOWN else 0)
            self.does(lifted(4), 0)

    def test_run_out_coupons_are_not_lifted(self):
        self.sell(leg(), last=10)
        self.does(clock(11), 1, 100, 7, 0, 0)
        self.does(lifted(3), 0)

    def test_range_of_carrier(self):
        for carrier in (-1, 676):
            self.refuses(-2, lifted(carrier))
        self.does(lifted(0), 0)
        self.does(lifted(675), 0)


class OnTest(StockedCase):
    def test_by_tickets_and_places(self):
        first = self.sell(leg(num=13), leg(), leg())
        self.sell(leg(num=13))
        third = self.sell(leg(), leg(num=13), leg(), leg(num=13))
        self.does(on(), first, 1, OPEN, first, 2, OPEN, third, 0, OPEN, third, 2, OPEN)
        self.does(on(num=14))

    def test_order_of_issue_is_not_that_of_numbers(self):
        self.begin_anew()
        self.does(stock(50, 51), 2)
        self.does(stock(7, 8), 4)
        numbers = [self.sell(leg()) for k in range(4)]
        self.assertEqual(numbers, [501, 512, 70, 81])
        self.does(on(), 501, 0, OPEN, 512, 0, OPEN, 70, 0, OPEN, 81, 0, OPEN)

    def test_each_status(self):
        number = self.sell(leg(), leg())
        for status in range(10):
            self.force(number, 0, status)
            shown = [number, 0, status] if status == FLOWN or status not in ENDED else []
            self.does(on(), *shown, number, 1, OPEN)

    def test_statuses_that_calls_lead_to(self):
        number = self.sell(leg(), leg(), leg(), leg())
        self.bring(number, 0, BOARDED)
        self.bring(number, 1, CHECKED_IN)
        self.bring(number, 2, CONTROLLED)
        self.does(suspend(number, 3))
        self.does(on(), number, 0, BOARDED, number, 1, CHECKED_IN, number, 2, CONTROLLED, number, 3, SUSPENDED)
        self.does(depart(), 1, 100, 7, 2)
        self.does(on(), number, 0, FLOWN, number, 1, OPEN, number, 2, OPEN, number, 3, SUSPENDED)

    def test_cancelled_flight(self):
        number = self.sell(leg())
        self.does(cancel(), 1)
        self.does(on(), number, 0, OPEN)

    def test_ended_coupons_are_not_told(self):
        voided = self.sell(leg())
        self.does(void(voided), 107, 0)
        number = self.sell(leg(), leg(), leg(), last=10)
        self.does(refund(number, [0]), 107, 0)
        self.does(exchange([(number, 1)], [leg(num=13)]), 1024, 0, 0, 0, 0, 0)
        self.does(on(), number, 2, OPEN)
        self.does(clock(11), 1, 100, 7, 0, 0)
        self.does(on())

    def test_only_this_flight(self):
        for one in (leg(carrier=4), leg(num=13), leg(day=11)):
            self.sell(one)
        self.does(on())
        self.does(on(carrier=4), 1002, 0, OPEN)
        self.does(on(num=13), 1013, 0, OPEN)
        self.does(on(day=11), 1024, 0, OPEN)

    def test_moved_coupons(self):
        number = self.sell(leg())
        self.does(revalidate(number, 0, 13, 11))
        self.does(on())
        self.does(on(3, 13, 11), number, 0, OPEN)

    def test_all_of_a_full_house(self):
        for k in range(64):
            self.sell(leg(), leg(), leg(), leg())
        self.does(on(), *[part for k in range(64) for n in range(4) for part in (number_of(100 + k), n, OPEN)])

    def test_ranges(self):
        for carrier, num, day in ((-1, 1, 0), (676, 1, 0), (0, 0, 0), (0, 10000, 0), (0, 1, -1), (0, 1, 36525)):
            self.refuses(-2, on(carrier, num, day))
        self.does(on(0, 1, 0))
        self.does(on(675, 9999, 36524))


class ValidTest(HouseCase):
    def test_each_last_digit(self):
        for form in (1, 6, 7, 8, 100, 123456789, 999999999):
            for digit in range(10):
                self.does(valid(10 * form + digit), int(digit == form % 7))

    def test_written_out(self):
        for number in (11, 70, 1002, 9999999995):
            self.does(valid(number), 1)
        for number in (10, 77, 1003, 9999999999):
            self.does(valid(number), 0)

    def test_no_ticket_is_asked_for(self):
        self.does(valid(1002), 1)
        self.does(stock(100, 100), 1)
        self.sell(leg())
        self.does(valid(1002), 1)
        self.does(valid(1003), 0)

    def test_range_of_number(self):
        for wrong in (9, 0, -1002, 10000000000, 10 ** 12):
            self.refuses(-2, valid(wrong))


class TicketsTest(StockedCase):
    def test_none(self):
        self.does(tickets())

    def test_in_the_order_of_issue(self):
        self.begin_anew()
        self.does(stock(50, 51), 2)
        self.does(stock(7, 8), 4)
        for k in range(3):
            self.sell(leg())
        self.does(exchange([(512, 0)], [leg()]), 81, 0, 0, 0, 0, 0)
        self.does(tickets(), 501, 512, 70, 81)

    def test_void_and_ended_ones_too(self):
        first = self.sell(leg())
        second = self.sell(leg())
        third = self.sell(leg(), last=10)
        self.does(void(first), 107, 0)
        self.does(refund(second, [0]), 107, 0)
        self.does(clock(11), 1, 100, 7, 0, 0)
        self.does(tickets(), first, second, third)

    def test_64(self):
        for k in range(64):
            self.sell(leg())
        self.does(tickets(), *[number_of(100 + k) for k in range(64)])

    def test_credits_are_no_tickets(self):
        self.earn(40)
        self.does(tickets(), 1002, 1013)
        self.does(credit(1), 5, 40, 365)
