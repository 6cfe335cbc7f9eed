"""The call credit, and the life of credits that calls have made."""

from tests.support import HouseCase, TAKE, TO_CASH
from tests.support import clock, credit, exchange, issue, leg, number_of, refund, stock, use, void


class CreditTest(HouseCase):
    def setUp(self):
        super().setUp()
        self.does(stock(100, 199), 100)

    def test_passenger_amount_and_last_day(self):
        self.does(clock(7), 0, 0, 0, 0, 0)
        self.assertEqual(self.earn(40, passenger=77), 1)
        self.does(clock(9), 1, 0, 0, 0, 0)
        self.assertEqual(self.earn(2, passenger=1000000000), 2)
        self.does(credit(1), 77, 40, 372)
        self.does(credit(2), 1000000000, 2, 374)

    def test_no_such_credit(self):
        self.refuses(-8, credit(1))
        self.refuses(-8, credit(64))
        self.earn(40)
        self.does(credit(1), 5, 40, 365)
        self.refuses(-8, credit(2))
        self.refuses(-8, credit(64))

    def test_range_of_id(self):
        for credit_id in (0, -1, 65):
            self.refuses(-2, credit(credit_id))

    def test_drawn_credit(self):
        self.earn(40)
        self.sell(leg(value=25, tax=0), credit_ids=[1])
        self.does(credit(1), 5, 15, 365)
        self.sell(leg(value=25, tax=0), credit_ids=[1])
        self.does(credit(1), 5, 0, 365)


class LifeTest(HouseCase):
    """Three credits of passenger 5 (60, 50, 30), one of passenger 6 (9); their last day is 365."""

    def setUp(self):
        super().setUp()
        self.does(stock(100, 199), 100)
        for amount in (60, 50, 30):
            self.earn(amount)
        self.earn(9, passenger=6)

    def told_amounts(self):
        return [self.ask(credit(k))[2] for k in (1, 2, 3, 4)]

    def test_drawn_in_the_order_named(self):
        self.does(issue([leg(value=93, tax=7)], credit_ids=[2, 1, 3]), number_of(108), 0)
        self.assertEqual(self.told_amounts(), [10, 0, 30, 9])

    def test_the_rest_is_paid_in_cash(self):
        self.does(issue([leg(value=100, tax=50)], credit_ids=[3, 1, 2]), number_of(108), 10)
        self.assertEqual(self.told_amounts(), [0, 0, 0, 9])
        self.assert_heaps(cash_in=159)

    def test_not_drawn_beyond_the_price(self):
        self.does(issue([leg(value=60, tax=0)], credit_ids=[1, 2]), number_of(108), 0)
        self.assertEqual(self.told_amounts(), [0, 50, 30, 9])

    def test_wrong_credits(self):
        for credit_ids in ([4], [1, 4], [1, 1], [1, 2, 1], [5], [1, 64]):
            self.refuses(-8, issue([leg()], credit_ids=credit_ids))
        self.refuses(-8, issue([leg()], passenger=6, credit_ids=[1]))
        self.does(issue([leg()], passenger=6, credit_ids=[4]), number_of(108), 98)

    def test_given_back_by_void(self):
        number = self.sell(leg(value=100, tax=25), credit_ids=[2, 1, 3])
        self.assertEqual(self.told_amounts(), [0, 0, 15, 9])
        self.does(void(number), 0, 125)
        self.assertEqual(self.told_amounts(), [60, 50, 30, 9])

    def test_cash_and_credits_given_back(self):
        number = self.sell(leg(value=100, tax=25), credit_ids=[1, 3])
        self.does(void(number), 35, 90)
        self.assertEqual(self.told_amounts(), [60, 50, 30, 9])
        self.assert_heaps(cash_in=184, cash_out=35)

    def test_given_back_to_the_credits_of_this_ticket_alone(self):
        first = self.sell(leg(value=70, tax=0), credit_ids=[1, 2])
        second = self.sell(leg(value=45, tax=0), credit_ids=[2, 3])
        self.assertEqual(self.told_amounts(), [0, 0, 25, 9])
        self.does(void(first), 0, 70)
        self.assertEqual(self.told_amounts(), [60, 10, 25, 9])
        self.does(void(second), 0, 45)
        self.assertEqual(self.told_amounts(), [60, 50, 30, 9])

    def test_void_refused_gives_nothing_back(self):
        number = self.sell(leg(value=100, tax=25), credit_ids=[2, 1, 3])
        self.does(use(TAKE, number))
        self.refuses(-9, void(number))
        self.assertEqual(self.told_amounts(), [0, 0, 15, 9])

    def test_refund_and_exchange_give_nothing_back_to_credits(self):
        number = self.sell(leg(value=50, tax=0), leg(value=50, tax=0), credit_ids=[1, 2])
        self.does(refund(number, [0]), 50, 0)
        self.does(exchange([(number, 1)], [leg(value=0, tax=0)], 0, TO_CASH), number_of(109), 0, 50, 0, 0, 0)
        self.assertEqual(self.told_amounts(), [0, 10, 30, 9])

    def test_run_out_by_clock(self):
        self.sell(leg(value=60, tax=0), credit_ids=[1])
        self.does(clock(1), 4, 0, 0, 0, 0)
        self.does(clock(365), 1, 60, 0, 0, 0)
        self.assertEqual(self.told_amounts(), [0, 50, 30, 9])
        self.does(clock(366), 0, 0, 0, 3, 89)
        self.assertEqual(self.told_amounts(), [0, 0, 0, 0])
        self.does(credit(2), 5, 0, 365)
        self.does(clock(366), 0, 0, 0, 0, 0)
        self.does(clock(400), 0, 0, 0, 0, 0)
        self.assert_heaps(cash_in=149, kept=149)

    def test_later_credit_runs_out_later(self):
        self.does(clock(10), 4, 0, 0, 0, 0)
        self.earn(7)
        self.does(clock(366), 1, 0, 0, 4, 149)
        self.does(credit(5), 5, 7, 375)
        self.does(clock(375), 0, 0, 0, 0, 0)
        self.does(clock(376), 0, 0, 0, 1, 7)

    def test_run_out_credit_pays_nothing(self):
        self.does(clock(366), 4, 0, 0, 4, 149)
        self.does(issue([leg(day=366)], last=366, credit_ids=[1, 2]), number_of(108), 107)
        self.does(void(number_of(108)), 107, 0)
        self.does(credit(1), 5, 0, 365)

    def test_last_of_days(self):
        self.does(clock(36300), 4, 0, 0, 4, 149)
        self.earn(7)
        self.does(credit(5), 5, 7, 36524)
        self.does(clock(36524), 1, 0, 0, 0, 0)
        self.does(credit(5), 5, 7, 36524)
