from tests.support import BOARDED, GIVE_UP, HouseCase, OPEN, REFUNDED, TAKE
from tests.support import cancel, clock, depart, heaps, leg, on, refund, revalidate, stock, suspend, ticket, use, void

MOST = 1000000000


class RefundTest(HouseCase):
    def setUp(self):
        super().setUp()
        self.does(stock(100, 199), 100)

    def test_whole_ticket(self):
        number = self.sell(leg(), leg(value=1, tax=2))
        other = self.sell(leg())
        self.does(refund(number, [0, 1]), 110, 0)
        self.assertEqual(self.statuses(number), [REFUNDED, REFUNDED])
        self.assertEqual(self.statuses(other), [OPEN])
        self.does(heaps(), 217, 110, 0, 0, 0, 107)

    def test_some_coupons(self):
        number = self.sell(leg(value=1, tax=2), leg(value=4, tax=8), leg(value=16, tax=32), leg(value=64, tax=128))
        self.does(refund(number, [3, 1]), 204, 0)
        self.assertEqual(self.statuses(number), [OPEN, REFUNDED, OPEN, REFUNDED])
        self.does(refund(number, [0, 2], 10), 41, 10)
        self.does(heaps(), 255, 245, 0, 10, 0, 0)

    def test_told_by_ticket_and_not_on_the_flight(self):
        number = self.sell(leg(), leg())
        self.does(refund(number, [1]), 107, 0)
        self.does(ticket(number), 5, 0, 30, *leg(), OPEN, 0, *leg(), REFUNDED, 0)
        self.does(on(), number, 0, OPEN)

    def test_penalty_against_the_values(self):
        for penalty, kept in ((0, 0), (1, 1), (99, 99), (100, 100), (101, 100), (107, 100), (MOST, 100)):
            number = self.sell(leg())
            self.does(refund(number, [0], penalty), 107 - kept, kept)

    def test_penalty_against_the_values_together(self):
        for penalty, kept in ((149, 149), (150, 150), (151, 150)):
            number = self.sell(leg(), leg(value=50, tax=5))
            self.does(refund(number, [0, 1], penalty), 162 - kept, kept)

    def test_only_the_named_coupons_count(self):
        number = self.sell(leg(), leg(value=50, tax=5))
        self.does(refund(number, [1], 120), 5, 50)
        self.does(heaps(), 162, 5, 0, 50, 0, 107)

    def test_taxes_are_never_kept(self):
        number = self.sell(leg(value=0, tax=40))
        self.does(refund(number, [0], 30), 40, 0)

    def test_free_coupons_are_not_charged(self):
        number = self.sell(leg(num=21), leg(num=22))
        self.does(cancel(num=21), 1)
        self.does(cancel(num=22), 1)
        self.does(refund(number, [0, 1], 30), 214, 0)

    def test_values_of_free_coupons_do_not_count(self):
        for penalty, kept in ((10, 10), (20, 20), (21, 20), (MOST, 20)):
            self.compare_with_answers()
            self.setUp()
            number = self.sell(leg(num=21, value=80, tax=1), leg(num=22, value=20, tax=2))
            self.does(cancel(num=21), 1)
            self.does(refund(number, [0, 1], penalty), 103 - kept, kept)

    def test_mark_taken_away_by_revalidate(self):
        number = self.sell(leg())
        self.does(cancel(), 1)
        self.does(revalidate(number))
        self.does(refund(number, [0], 30), 77, 30)

    def test_departed_flight_gives_no_mark(self):
        number = self.sell(leg())
        self.does(depart(), 0, 0, 0, 0)
        self.does(refund(number, [0], 30), 77, 30)

    def test_what_credits_paid_is_paid_out_too(self):
        self.earn(60)
        number = self.sell(leg(), credit_ids=[1])
        self.does(refund(number, [0], 7), 100, 7)
        self.assertEqual(self.amounts(), [0])
        self.assert_heaps(cash_in=107, cash_out=100, kept=7)

    def test_any_day(self):
        number = self.sell(leg(), leg(), last=20)
        self.does(clock(20), 0, 0, 0, 0, 0)
        self.does(refund(number, [0]), 107, 0)
        self.does(clock(21), 1, 100, 7, 0, 0)
        self.refuses(-9, refund(number, [1]))

    def test_coupons_behind_their_last_day_are_refunded_while_open(self):
        number = self.sell(leg(), last=10)
        self.does(use(TAKE, number))
        self.does(clock(11), 0, 0, 0, 0, 0)
        self.does(use(GIVE_UP, number))
        self.does(refund(number, [0]), 107, 0)
        self.does(clock(11), 0, 0, 0, 0, 0)

    def test_the_rest_of_the_ticket_goes_on(self):
        number = self.sell(leg(), leg(num=13))
        self.does(refund(number, [0]), 107, 0)
        self.bring(number, 1, BOARDED)
        self.does(depart(num=13), 1, 100, 7, 0)

    def test_refunded_coupon_has_ended(self):
        number = self.sell(leg())
        self.does(refund(number, [0]), 107, 0)
        for call in (refund(number, [0]), void(number), use(TAKE, number), suspend(number), revalidate(number)):
            self.refuses(-9, call)
        self.does(cancel(), 0)

    def test_only_open_coupons(self):
        number = self.sell(leg(), leg())
        for status in range(1, 10):
            self.force(number, 1, status)
            self.refuses(-9, refund(number, [1]))
            self.refuses(-9, refund(number, [0, 1]))
        self.force(number, 1, OPEN)
        self.does(refund(number, [0, 1]), 214, 0)

    def test_named_twice(self):
        number = self.sell(leg(), leg(), leg())
        for places in ([0, 0], [1, 0, 1], [2, 1, 0, 2], [1, 1, 1, 1]):
            self.refuses(-15, refund(number, places))
        self.does(refund(number, [2, 1, 0]), 321, 0)

    def test_no_such_coupon(self):
        for many in (1, 2, 3):
            number = self.sell(*[leg()] * many)
            for n in range(many, 4):
                self.refuses(-5, refund(number, [n]))
                self.refuses(-5, refund(number, [0, n]))

    def test_order_of_refusals(self):
        number = self.sell(leg(), leg(), leg())
        self.does(use(TAKE, number, 1))
        self.refuses(-2, refund(number + 1, [3, 3], -1))
        self.refuses(-3, refund(number + 1, [3, 3]))
        self.refuses(-4, refund(1013, [3, 3]))
        self.refuses(-5, refund(number, [3, 3]))
        self.refuses(-5, refund(number, [0, 0, 3, 1]))
        self.refuses(-9, refund(number, [1, 3]))
        self.refuses(-9, refund(number, [0, 0, 1, 3]))
        self.refuses(-9, refund(number, [1, 1]))
        self.refuses(-15, refund(number, [0, 2, 0]))

    def test_wrong_numbers(self):
        self.sell(leg())
        for digit in (0, 1, 3, 4, 5, 6, 7, 8, 9):
            self.refuses(-3, refund(1000 + digit, [0]))
        self.refuses(-4, refund(991, [0]))

    def test_ranges(self):
        number = self.sell(leg(), leg(), leg(), leg())
        for wrong in (9, 0, -1, 10000000000):
            self.refuses(-2, refund(wrong, [0]))
        for penalty in (-1, MOST + 1):
            self.refuses(-2, refund(number, [0], penalty))
        for n in (-1, 4):
            self.refuses(-2, refund(number, [n]))
            self.refuses(-2, refund(number, [0, 1, 2, n]))
        self.does(refund(number, [0], MOST), 7, 100)
        self.does(refund(number, [3], 0), 107, 0)
        self.refuses(-3, refund(10, [0]))
        self.refuses(-3, refund(9999999999, [0]))

    def test_lengths_of_the_row(self):
        for many in range(41):
            number = self.sell(leg(), leg(), leg(), leg())
            places = ([0, 1, 2, 3] * 10)[:many]
            if many in (1, 2, 3, 4):
                self.does(refund(number, places), 107 * many, 0)
            else:
                self.refuses(-2, refund(number, places))

    def test_largest_amounts(self):
        number = self.sell(*[leg(value=MOST, tax=MOST)] * 4)
        self.does(refund(number, [0, 1, 2, 3], MOST), 7 * MOST, MOST)
