from tests.support import BOARDED, CONTROLLED, EXCHANGED, HouseCase, OPEN, RUN_OUT
from tests.support import GIVE_UP, TAKE, TO_CASH, TO_CREDIT, TO_KEEP
from tests.support import cancel, clock, credit, depart, exchange, exchange_rows, heaps, issue, leg, number_of, on
from tests.support import refund, revalidate, stock, suspend, ticket, tickets, use, void

MOST = 1000000000
MODES = (TO_CREDIT, TO_CASH, TO_KEEP)
WRONG_LEG = leg(origin=9, goal=9)


class ExchangeCase(HouseCase):
    def setUp(self):
        super().setUp()
        self.does(stock(100, 199), 100)

    def start_over(self):
        self.compare_with_answers()
        self.setUp()


class SettleTest(ExchangeCase):
    """Where the money goes; the old ticket is worth 107, and the new one has the number 1013."""

    def setUp(self):
        super().setUp()
        self.old = [(self.sell(leg()), 0)]

    def test_price_above(self):
        for mode in MODES:
            self.start_over()
            self.does(exchange(self.old, [leg(value=150, tax=10)], 5, mode), 1013, 58, 0, 0, 0, 5)
            self.refuses(-8, credit(1))
            self.does(heaps(), 165, 0, 0, 5, 0, 160)

    def test_price_one_above(self):
        for mode in MODES:
            self.start_over()
            self.does(exchange(self.old, [leg(tax=8)], 0, mode), 1013, 1, 0, 0, 0, 0)

    def test_price_equal(self):
        for mode in MODES:
            self.start_over()
            self.does(exchange(self.old, [leg(value=90, tax=10)], 7, mode), 1013, 0, 0, 0, 0, 7)
            self.refuses(-8, credit(1))
            self.does(heaps(), 107, 0, 0, 7, 0, 100)

    def test_price_equal_without_penalty(self):
        for mode in MODES:
            self.start_over()
            self.does(exchange(self.old, [leg(value=7, tax=100)], 0, mode), 1013, 0, 0, 0, 0, 0)
            self.refuses(-8, credit(1))

    def test_price_below_to_credit(self):
        self.does(exchange(self.old, [leg(value=60, tax=7)], 10, TO_CREDIT), 1013, 0, 0, 1, 30, 10)
        self.does(credit(1), 5, 30, 365)
        self.does(heaps(), 107, 0, 0, 10, 0, 97)

    def test_price_below_to_cash(self):
        self.does(exchange(self.old, [leg(value=60, tax=7)], 10, TO_CASH), 1013, 0, 30, 0, 0, 10)
        self.refuses(-8, credit(1))
        self.does(heaps(), 107, 30, 0, 10, 0, 67)

    def test_price_below_to_keep(self):
        self.does(exchange(self.old, [leg(value=60, tax=7)], 10, TO_KEEP), 1013, 0, 0, 0, 0, 40)
        self.refuses(-8, credit(1))
        self.does(heaps(), 107, 0, 0, 40, 0, 67)

    def test_rest_of_one_unit(self):
        self.does(exchange(self.old, [leg(value=99)], 0, TO_CREDIT), 1013, 0, 0, 1, 1, 0)
        self.does(credit(1), 5, 1, 365)

    def test_penalty_above_all_else(self):
        self.does(exchange(self.old, [leg()], MOST), 1013, MOST, 0, 0, 0, MOST)

    def test_penalty_takes_the_whole_old_worth(self):
        self.does(exchange(self.old, [leg(value=0, tax=0)], 107), 1013, 0, 0, 0, 0, 107)

    def test_penalty_is_paid_in_part_by_the_old_worth(self):
        self.does(exchange(self.old, [leg(value=100, tax=0)], 10), 1013, 3, 0, 0, 0, 10)

    def test_new_worths_together(self):
        legs = [leg(value=1, tax=2), leg(value=4, tax=8), leg(value=16, tax=32), leg(value=0, tax=4)]
        self.does(exchange(self.old, legs, 0, TO_CASH), 1013, 0, 40, 0, 0, 0)

    def test_largest_amounts(self):
        numbers = [self.sell(*[leg(value=MOST, tax=MOST)] * 4) for k in range(2)]
        old = [(number, n) for number in numbers for n in range(4)]
        self.does(exchange(old, [leg(value=0, tax=0)]), 1035, 0, 0, 1, 16 * MOST, 0)
        self.does(credit(1), 5, 16 * MOST, 365)
        self.does(exchange([(1035, 0)], [leg(value=MOST, tax=MOST)] * 4, MOST), 1046, 9 * MOST, 0, 0, 0, MOST)

    def test_what_was_drawn_before_does_not_count(self):
        self.does(exchange(self.old, [leg(value=0, tax=0)]), 1013, 0, 0, 1, 107, 0)
        self.does(issue([leg(value=50, tax=0)], credit_ids=[1]), 1024, 0)
        self.does(exchange([(1024, 0)], [leg(value=10, tax=0)], 0, TO_CASH), 1035, 0, 40, 0, 0, 0)
        self.does(credit(1), 5, 57, 365)


class PenaltyTest(ExchangeCase):
    """Two old coupons on the flights 21 and 22, worth 107 each; the penalty is 30."""

    def setUp(self):
        super().setUp()
        number = self.sell(leg(num=21), leg(num=22))
        self.old = [(number, 0), (number, 1)]

    def test_none_free(self):
        self.does(exchange(self.old, [leg(value=150, tax=4)], 30, TO_CREDIT), 1013, 0, 0, 1, 30, 30)
        self.assert_heaps(cash_in=214, kept=30)

    def test_some_free(self):
        for num in (21, 22):
            self.start_over()
            self.does(cancel(num=num), 1)
            self.does(exchange(self.old, [leg(value=150, tax=4)], 30, TO_CREDIT), 1013, 0, 0, 1, 30, 30)
            self.assert_heaps(cash_in=214, kept=30)

    def test_all_free(self):
        self.does(cancel(num=21), 1)
        self.does(cancel(num=22), 1)
        self.does(exchange(self.old, [leg(value=150, tax=4)], 30, TO_CREDIT), 1013, 0, 0, 1, 60, 0)
        self.assert_heaps(cash_in=214)

    def test_all_free_to_cash_and_to_keep(self):
        for mode, rest in ((TO_CASH, (60, 0, 0, 0)), (TO_KEEP, (0, 0, 0, 60))):
            self.start_over()
            self.does(cancel(num=21), 1)
            self.does(cancel(num=22), 1)
            self.does(exchange(self.old, [leg(value=150, tax=4)], 30, mode), 1013, 0, *rest)

    def test_all_free_and_price_above(self):
        self.does(cancel(num=21), 1)
        self.does(cancel(num=22), 1)
        self.does(exchange(self.old, [leg(value=210, tax=9)], 30), 1013, 5, 0, 0, 0, 0)

    def test_all_free_and_price_equal_but_for_the_penalty(self):
        self.does(cancel(num=21), 1)
        self.does(cancel(num=22), 1)
        self.does(exchange(self.old, [leg(value=200, tax=14)], 30), 1013, 0, 0, 0, 0, 0)
        self.refuses(-8, credit(1))

    def test_only_the_named_coupons_count(self):
        self.does(cancel(num=21), 1)
        self.does(exchange(self.old[:1], [leg()], 30), 1013, 0, 0, 0, 0, 0)
        self.does(exchange(self.old[1:], [leg()], 30), 1024, 30, 0, 0, 0, 30)

    def test_mark_taken_away_by_revalidate(self):
        self.does(cancel(num=21), 1)
        self.does(revalidate(self.old[0][0], 0, 23, 11))
        self.does(exchange(self.old[:1], [leg()], 30), 1013, 30, 0, 0, 0, 30)

    def test_departed_flight_gives_no_mark(self):
        self.does(depart(num=21), 0, 0, 0, 0)
        self.does(exchange(self.old[:1], [leg()], 30), 1013, 30, 0, 0, 0, 30)


class NewTicketTest(ExchangeCase):
    def test_ticket_as_told(self):
        self.does(clock(4), 0, 0, 0, 0, 0)
        old = self.sell(leg(), passenger=77, last=30)
        self.does(clock(6), 0, 0, 0, 0, 0)
        legs = [leg(0, 1, 6, 17575, 0, 5, 6), leg(675, 9999, 40, 2, 1, 8, 9)]
        self.does(exchange([(old, 0)], legs, last=40), 1013, 0, 0, 1, 79, 0)
        self.does(ticket(1013), 77, 6, 40, *legs[0], OPEN, 0, *legs[1], OPEN, 0)
        self.does(tickets(), old, 1013)
        self.does(credit(1), 77, 79, 371)

    def test_old_coupons_are_exchanged(self):
        first = self.sell(leg(), leg(), leg())
        second = self.sell(leg(), leg())
        self.does(exchange([(second, 1), (first, 2), (first, 0)], [leg()], 0, TO_CASH), 1024, 0, 214, 0, 0, 0)
        self.assertEqual(self.statuses(first), [EXCHANGED, OPEN, EXCHANGED])
        self.assertEqual(self.statuses(second), [OPEN, EXCHANGED])
        self.assertEqual(self.ask(ticket(first))[11:13], [EXCHANGED, 0])
        self.refuses(-9, exchange([(first, 0)], [leg()]))
        self.refuses(-9, refund(first, [0]))
        self.refuses(-9, use(TAKE, first, 0))
        self.refuses(-9, void(first))

    def test_mark_of_an_old_coupon_is_not_handed_on(self):
        old = self.sell(leg())
        self.does(cancel(), 1)
        self.does(exchange([(old, 0)], [leg(num=13)]), 1013, 0, 0, 0, 0, 0)
        self.assertEqual(self.marks(old), [True])
        self.assertEqual(self.marks(1013), [False])

    def test_next_form_is_taken(self):
        self.begin_anew()
        self.does(stock(50, 51), 2)
        self.does(stock(20, 21), 4)
        self.sell(leg())
        self.does(exchange([(501, 0)], [leg()]), 512, 0, 0, 0, 0, 0)
        self.does(exchange([(512, 0)], [leg()]), 206, 0, 0, 0, 0, 0)
        self.does(stock(7, 7), 2)

    def test_new_ticket_is_not_voided(self):
        old = self.sell(leg())
        self.does(exchange([(old, 0)], [leg(value=200)]), 1013, 100, 0, 0, 0, 0)
        self.refuses(-9, void(1013))
        self.refuses(-9, void(old))

    def test_new_ticket_is_used_exchanged_and_refunded(self):
        self.does(exchange([(self.sell(leg()), 0)], [leg(), leg(), leg(num=13)]), 1013, 214, 0, 0, 0, 0)
        self.does(exchange([(1013, 0)], [leg(num=14)]), 1024, 0, 0, 0, 0, 0)
        self.does(refund(1013, [1]), 107, 0)
        self.bring(1013, 2, BOARDED)
        self.does(depart(num=13), 1, 100, 7, 0)
        self.does(on(num=14), 1024, 0, OPEN)

    def test_rest_of_the_old_ticket_goes_on(self):
        old = self.sell(leg(), leg(num=13))
        self.does(exchange([(old, 0)], [leg()]), 1013, 0, 0, 0, 0, 0)
        self.bring(old, 1, BOARDED)
        self.does(depart(num=13), 1, 100, 7, 0)

    def test_coupons_of_gone_flights_are_exchanged(self):
        number = self.sell(leg(), leg(num=13))
        self.does(depart(), 0, 0, 0, 0)
        self.does(cancel(num=13), 1)
        self.does(exchange([(number, 0), (number, 1)], [leg(num=14)] * 2), 1013, 0, 0, 0, 0, 0)

    def test_coupons_behind_their_last_day_are_exchanged_while_open(self):
        number = self.sell(leg(), leg(), last=10)
        self.does(use(TAKE, number, 0))
        self.does(clock(11), 1, 100, 7, 0, 0)
        self.does(use(GIVE_UP, number, 0))
        self.assertEqual(self.statuses(number), [OPEN, RUN_OUT])
        self.does(exchange([(number, 0)], [leg(day=11)]), 1013, 0, 0, 0, 0, 0)
        self.does(clock(11), 0, 0, 0, 0, 0)

    def test_new_ticket_runs_out_by_its_own_last_day(self):
        number = self.sell(leg(), last=10)
        self.does(exchange([(number, 0)], [leg()], last=20), 1013, 0, 0, 0, 0, 0)
        self.does(clock(20), 0, 0, 0, 0, 0)
        self.does(clock(21), 1, 100, 7, 0, 0)

    def test_eight_coupons_of_several_tickets(self):
        numbers = [self.sell(*[leg(value=1, tax=0)] * 2) for k in range(4)]
        old = [(number, n) for number in numbers for n in (1, 0)]
        self.does(exchange(old, [leg(value=5, tax=0)], 1, TO_CASH), 1046, 0, 2, 0, 0, 1)
        for number in numbers:
            self.assertEqual(self.statuses(number), [EXCHANGED, EXCHANGED])


class NewCreditTest(ExchangeCase):
    def make(self, credit_id, amount, passenger=5):
        """Exchanges a ticket so that the rest is this amount."""
        day = self.house.today
        number = self.sell(leg(day=day, value=amount, tax=1), passenger=passenger, last=day)
        answer = self.ask(exchange([(number, 0)], [leg(day=day, value=1, tax=0)], last=day))
        self.assertEqual(answer[2:], [0, 0, credit_id, amount, 0])

    def test_ids_in_the_order_of_making(self):
        self.make(1, 40)
        self.make(2, 2, passenger=6)
        self.does(exchange([(self.sell(leg()), 0)], [leg()]), number_of(105), 0, 0, 0, 0, 0)
        self.make(3, 800)
        self.does(credit(1), 5, 40, 365)
        self.does(credit(2), 6, 2, 365)
        self.does(credit(3), 5, 800, 365)
        self.refuses(-8, credit(4))

    def test_last_day(self):
        for today, last in ((0, 365), (1, 366), (36158, 36523), (36159, 36524), (36160, 36524), (36524, 36524)):
            self.start_over()
            self.does(clock(today), 0, 0, 0, 0, 0)
            self.make(1, 40)
            self.does(credit(1), 5, 40, last)

    def test_64_credits(self):
        # 64 tickets leave room for 63 exchanges, so no calls lead to 64 credits.
        self.does(exchange([(self.sell(leg(), leg(), leg()), 0)], [leg()]), 1013, 0, 0, 0, 0, 0)
        for k in range(63):
            self.add_credit(6, 1, 365)
        self.does(exchange([(1013, 0)], [leg(value=99)]), 1024, 0, 0, 64, 1, 0)
        self.refuses(-6, exchange([(1002, 1)], [leg(value=99)], 0, TO_CREDIT))
        self.does(exchange([(1024, 0)], [leg(value=99)], 0, TO_CREDIT), 1035, 0, 0, 0, 0, 0)
        self.does(exchange([(1035, 0)], [leg()], 0, TO_CREDIT), 1046, 1, 0, 0, 0, 0)
        self.does(exchange([(1002, 1)], [leg(value=99)], 0, TO_CASH), 1050, 0, 1, 0, 0, 0)
        self.does(exchange([(1002, 2)], [leg(value=99)], 0, TO_KEEP), 1061, 0, 0, 0, 0, 1)
        self.does(credit(64), 5, 1, 365)

    def test_63_credits_made_by_calls(self):
        number = self.sell(leg(value=63, tax=0))
        for k in range(1, 64):
            self.does(exchange([(number, 0)], [leg(value=63 - k, tax=0)]), number_of(100 + k), 0, 0, k, 1, 0)
            number = number_of(100 + k)
        self.does(credit(63), 5, 1, 365)
        self.refuses(-8, credit(64))
        self.refuses(-6, exchange([(number, 0)], [leg(value=0, tax=0)]))
        self.does(heaps(), 63, 0, 0, 0, 0, 63)


class RefusalTest(ExchangeCase):
    def test_only_open_coupons(self):
        number = self.sell(leg(), leg())
        for status in range(1, 10):
            self.force(number, 1, status)
            self.refuses(-9, exchange([(number, 1)], [leg()]))
            self.refuses(-9, exchange([(number, 0), (number, 1)], [leg()]))
        self.force(number, 1, OPEN)
        self.does(exchange([(number, 0), (number, 1)], [leg()], 0, TO_CASH), 1013, 0, 107, 0, 0, 0)

    def test_statuses_that_calls_lead_to(self):
        number = self.sell(leg(), leg(), leg(num=13))
        self.does(use(TAKE, number, 0))
        self.does(suspend(number, 1))
        self.bring(number, 2, CONTROLLED)
        for n in range(3):
            self.refuses(-9, exchange([(number, n)], [leg()]))

    def test_wrong_numbers_and_places(self):
        number = self.sell(leg(), leg())
        for digit in (0, 1, 3, 4, 5, 6, 7, 8, 9):
            self.refuses(-3, exchange([(1000 + digit, 0)], [leg()]))
        self.refuses(-4, exchange([(1013, 0)], [leg()]))
        self.refuses(-5, exchange([(number, 2)], [leg()]))
        self.refuses(-5, exchange([(number, 3)], [leg()]))

    def test_each_old_coupon_is_looked_at_by_itself(self):
        number = self.sell(leg(), leg())
        self.does(use(TAKE, number, 1))
        wrong = {-3: (number + 1, 0), -4: (1013, 0), -5: (number, 2), -9: (number, 1)}
        for first, pair in wrong.items():
            for other in wrong.values():
                self.refuses(first, exchange([pair, other], [leg()]))
                self.refuses(first, exchange([(number, 0), pair, other], [leg()]))
                self.refuses(first, exchange([(number, 0), (number, 0), pair, other], [leg()]))

    def test_one_old_coupon_with_several_faults(self):
        number = self.sell(leg())
        self.does(use(TAKE, number))
        self.refuses(-3, exchange([(number + 1, 3)], [WRONG_LEG]))
        self.refuses(-4, exchange([(1013, 3)], [WRONG_LEG]))
        self.refuses(-5, exchange([(number, 3)], [WRONG_LEG]))
        self.refuses(-9, exchange([(number, 0)], [WRONG_LEG]))

    def test_named_twice(self):
        first = self.sell(leg(), leg())
        second = self.sell(leg(), leg())
        self.refuses(-15, exchange([(first, 0), (first, 0)], [leg()]))
        self.refuses(-15, exchange([(first, 1), (second, 1), (first, 0), (first, 1)], [leg()]))
        self.refuses(-15, exchange([(first, 0)] * 8, [leg()]))
        self.does(exchange([(first, 0), (second, 0), (first, 1), (second, 1)], [leg()] * 4), 1024, 0, 0, 0, 0, 0)

    def test_unlike_passengers(self):
        first = self.sell(leg(), leg(), passenger=5)
        second = self.sell(leg(), passenger=6)
        third = self.sell(leg(), passenger=5)
        self.refuses(-15, exchange([(first, 0), (second, 0)], [leg()]))
        self.refuses(-15, exchange([(first, 0), (first, 1), (third, 0), (second, 0)], [leg()]))
        self.refuses(-15, exchange([(second, 0), (third, 0)], [leg()]))
        self.does(exchange([(first, 0), (third, 0)], [leg()] * 2), 1035, 0, 0, 0, 0, 0)
        self.assertEqual(self.ask(ticket(1035))[1], 5)

    def test_new_coupons_that_may_not_be_issued(self):
        old = [(self.sell(leg(day=20)), 0)]
        self.does(clock(10), 0, 0, 0, 0, 0)
        self.does(depart(3, 12, 15), 0, 0, 0, 0)
        self.does(cancel(3, 13, 15), 0)
        for wrong in (WRONG_LEG, leg(day=9), leg(day=31), leg(3, 12, 15), leg(3, 13, 15)):
            self.refuses(-7, exchange(old, [wrong]))
            self.refuses(-7, exchange(old, [leg(), leg(), wrong]))
            self.refuses(-7, exchange(old, [wrong, leg()]))
        self.refuses(-7, exchange(old, [leg(day=9)], last=9))
        self.refuses(-7, exchange(old, [leg(day=10)], last=9))
        self.does(exchange(old, [leg(day=10), leg(day=30), leg(4, 12, 15)]), 1013, 214, 0, 0, 0, 0)

    def test_last_day_may_be_today(self):
        old = [(self.sell(leg(day=20)), 0)]
        self.does(clock(10), 0, 0, 0, 0, 0)
        self.does(exchange(old, [leg(day=10)], last=10), 1013, 0, 0, 0, 0, 0)

    def test_last_day_may_be_before_the_old_one(self):
        old = [(self.sell(leg(), last=30), 0)]
        self.does(exchange(old, [leg()], last=10), 1013, 0, 0, 0, 0, 0)

    def test_64_tickets(self):
        for k in range(63):
            self.sell(leg())
        self.does(exchange([(1002, 0)], [leg()]), number_of(163), 0, 0, 0, 0, 0)
        self.refuses(-6, exchange([(1013, 0)], [leg()]))
        self.refuses(-6, issue([leg()]))

    def test_no_form(self):
        self.begin_anew()
        self.does(stock(7, 7), 1)
        self.sell(leg())
        for mode in MODES:
            self.refuses(-14, exchange([(70, 0)], [leg()], 5, mode))
            self.refuses(-14, exchange([(70, 0)], [leg(value=1)], 5, mode))
        self.does(stock(5, 5), 1)
        self.does(exchange([(70, 0)], [leg()]), 55, 0, 0, 0, 0, 0)

    def test_order_of_the_later_refusals(self):
        self.begin_anew()
        self.does(stock(100, 163), 64)
        number = self.sell(leg(), leg())
        other = self.sell(leg(), passenger=6)
        for k in range(62):
            self.sell(leg())
        self.refuses(-2, exchange([(number + 1, 0)] * 2, [WRONG_LEG], -1))
        self.refuses(-15, exchange([(number, 0), (number, 0)], [WRONG_LEG]))
        self.refuses(-15, exchange([(number, 0), (other, 0)], [WRONG_LEG]))
        self.refuses(-15, exchange([(number, 0), (other, 0)], [leg()]))
        self.refuses(-7, exchange([(number, 0)], [WRONG_LEG]))
        # No form is left either: the full table is told first.
        self.refuses(-6, exchange([(number, 0)], [leg()]))

    def test_full_credits_are_told_before_the_forms(self):
        self.begin_anew()
        self.does(stock(100, 100), 1)
        number = self.sell(leg())
        for k in range(64):
            self.add_credit(5, 1, 365)
        self.refuses(-15, exchange([(number, 0)] * 2, [leg(value=0)]))
        self.refuses(-7, exchange([(number, 0)], [WRONG_LEG]))
        self.refuses(-6, exchange([(number, 0)], [leg(value=0)], 0, TO_CREDIT))
        self.refuses(-14, exchange([(number, 0)], [leg(value=0)], 0, TO_CASH))
        self.refuses(-14, exchange([(number, 0)], [leg()], 0, TO_CREDIT))


class RangeTest(ExchangeCase):
    def setUp(self):
        super().setUp()
        self.number = self.sell(leg(), leg(), leg(), leg(), last=36524)
        self.old = [(self.number, 0)]

    def test_plain_arguments(self):
        for penalty in (-1, MOST + 1, 10 ** 12):
            self.refuses(-2, exchange(self.old, [leg()], penalty))
        for mode in (-1, 3):
            self.refuses(-2, exchange(self.old, [leg()], 0, mode))
        for last in (-1, 36525):
            self.refuses(-2, exchange(self.old, [leg()], last=last))
        self.does(exchange(self.old, [leg()], MOST, 2, 36524), 1013, MOST, 0, 0, 0, MOST)
        self.does(exchange([(self.number, 1)], [leg(day=0)], 0, 0, 0), 1024, 0, 0, 0, 0, 0)

    def test_numbers_and_places(self):
        for wrong in (9, 0, -1, 10000000000):
            self.refuses(-2, exchange([(wrong, 0)], [leg()]))
            self.refuses(-2, exchange([(self.number, 0), (wrong, 0)], [leg()]))
        for n in (-1, 4):
            self.refuses(-2, exchange([(self.number, n)], [leg()]))
            self.refuses(-2, exchange([(self.number, 0), (self.number, n)], [leg()]))
        self.refuses(-3, exchange([(10, 0)], [leg()]))
        self.refuses(-3, exchange([(9999999999, 0)], [leg()]))
        self.does(exchange([(self.number, 3)], [leg()]), 1013, 0, 0, 0, 0, 0)

    def test_new_coupons(self):
        bounds = ((0, 675), (1, 9999), (0, 36524), (0, 17575), (0, 17575), (0, MOST), (0, MOST))
        pair = (self.number, 0)
        for k, (low, high) in enumerate(bounds):
            for outside in (low - 1, high + 1):
                wrong = leg()
                wrong[k] = outside
                self.refuses(-2, exchange([pair], [wrong]))
                self.refuses(-2, exchange([pair], [leg(), leg(), leg(), wrong]))
            for inside in (low, high):
                fitting = leg()
                fitting[k] = inside
                answer = self.ask(exchange([pair], [leg(), fitting], last=36524))
                self.assertEqual(answer[0], 0)
                pair = (answer[1], 0)

    def test_lengths_of_the_old_row(self):
        for many in range(41):
            row = [self.number, 0] * 20
            refusal = -15 if many in (4, 6, 8, 10, 12, 14, 16) else -2
            if many != 2:
                self.refuses(refusal, exchange_rows(row[:many], leg()))
        self.does(exchange_rows([self.number, 0], leg()), 1013, 0, 0, 0, 0, 0)

    def test_lengths_of_the_new_row(self):
        for many in range(41):
            row = (leg() * 6)[:many]
            call = exchange_rows([self.number, many // 7 - 1], row)
            if many in (7, 14, 21, 28):
                self.assertEqual(self.ask(call)[0], 0)
            else:
                self.refuses(-2, exchange_rows([self.number, 0], row))
