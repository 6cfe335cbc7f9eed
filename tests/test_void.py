from tests.support import CONTROLLED, GIVE_UP, HouseCase, OPEN, TAKE, VOIDED
from tests.support import cancel, clock, exchange, leg, revalidate, stock, suspend, use, void


class VoidTest(HouseCase):
    def setUp(self):
        super().setUp()
        self.does(stock(100, 199), 100)

    def test_cash_is_paid_out(self):
        number = self.sell(leg(), leg(value=1, tax=2))
        self.sell(leg())
        self.does(void(number), 110, 0)
        self.assertEqual(self.statuses(number), [VOIDED, VOIDED])
        self.assertEqual(self.statuses(1013), [OPEN])
        self.assert_heaps(cash_in=217, cash_out=110)

    def test_twice(self):
        number = self.sell(leg())
        self.does(void(number), 107, 0)
        self.refuses(-9, void(number))

    def test_only_on_the_day_of_issue(self):
        self.does(clock(4), 0, 0, 0, 0, 0)
        number = self.sell(leg())
        self.does(clock(4), 0, 0, 0, 0, 0)
        other = self.sell(leg())
        self.does(void(other), 107, 0)
        self.does(clock(5), 0, 0, 0, 0, 0)
        self.refuses(-9, void(number))

    def test_not_if_issued_in_exchange(self):
        number = self.sell(leg(), leg())
        for legs in ([leg()], [leg(value=200)]):
            answer = self.ask(exchange([(number, 0)], legs))
            self.assertEqual(answer[0], 0)
            number = answer[1]
            self.refuses(-9, void(number))

    def test_all_coupons_must_be_open(self):
        for n in range(3):
            number = self.sell(leg(), leg(), leg())
            self.does(use(TAKE, number, n))
            self.refuses(-9, void(number))
            self.does(use(GIVE_UP, number, n))
            self.does(suspend(number, n))
            self.refuses(-9, void(number))
            self.does(suspend(number, n, 0))
            self.does(void(number), 321, 0)

    def test_not_in_any_other_status(self):
        number = self.sell(leg(), leg())
        for status in range(CONTROLLED, 10):
            self.force(number, 1, status)
            self.refuses(-9, void(number))

    def test_moved_and_free_coupons_are_open_still(self):
        number = self.sell(leg(), leg())
        self.does(revalidate(number, 1, 13, 11))
        self.does(cancel(3, 12, 10), 1)
        self.does(void(number), 214, 0)

    def test_credits_get_back_what_was_drawn(self):
        for amount in (60, 50, 30):
            self.add_credit(5, amount, 365)
        number = self.sell(leg(value=113, tax=7), credit_ids=[2, 1, 3])
        self.assertEqual(self.amounts(), [0, 0, 20])
        self.does(void(number), 0, 120)
        self.assertEqual(self.amounts(), [60, 50, 30])
        self.assert_heaps(cash_in=140)

    def test_cash_and_credits(self):
        self.add_credit(5, 60, 365)
        number = self.sell(leg(), credit_ids=[1])
        self.does(void(number), 47, 60)
        self.assert_heaps(cash_in=107, cash_out=47)

    def test_only_what_this_ticket_drew(self):
        self.add_credit(5, 150, 365)
        self.sell(leg(value=60, tax=0), credit_ids=[1])
        number = self.sell(leg(value=100, tax=0), credit_ids=[1])
        self.does(void(number), 10, 90)
        self.assertEqual(self.amounts(), [90])

    def test_wrong_numbers(self):
        self.sell(leg())
        for digit in (0, 1, 3, 4, 5, 6, 7, 8, 9):
            self.refuses(-3, void(1000 + digit))
        self.refuses(-4, void(1013))
        self.refuses(-4, void(991))
        self.refuses(-3, void(10))
        self.refuses(-4, void(11))
        self.refuses(-3, void(9999999999))
        self.refuses(-4, void(9999999995))

    def test_range_of_number(self):
        self.refuses(-2, void(9))
        self.refuses(-2, void(10000000000))
        self.refuses(-2, void(-1013))
        self.refuses(-2, void(0))

    def test_order_of_refusals(self):
        number = self.sell(leg())
        self.does(void(number), 107, 0)
        self.refuses(-3, void(number + 1))
        self.refuses(-9, void(number))
