from tests.support import CONTROLLED, HouseCase, OPEN, SUSPENDED, TAKE
from tests.support import cancel, clock, depart, leg, revalidate, stock, suspend, use


class RevalidateTest(HouseCase):
    def setUp(self):
        super().setUp()
        self.does(stock(100, 199), 100)

    def test_another_flight_of_the_same_carrier(self):
        number = self.sell(leg(), leg(4, 15, 20, 8, 9, 50, 5))
        self.does(revalidate(number, 1, 16, 21))
        coupon = self.coupon(number, 1)
        self.assertEqual(coupon.flight(), (4, 16, 21))
        self.assertEqual((coupon.origin, coupon.goal, coupon.value, coupon.tax), (8, 9, 50, 5))
        self.assertEqual(coupon.status, OPEN)
        self.assertEqual(self.coupon(number, 0).flight(), (3, 12, 10))

    def test_the_same_flight(self):
        number = self.sell(leg())
        self.does(revalidate(number, 0, 12, 10))
        self.assertEqual(self.coupon(number).flight(), (3, 12, 10))

    def test_takes_the_mark_away(self):
        number = self.sell(leg(), leg())
        self.does(cancel(), 2)
        self.assertEqual(self.marks(number), [True, True])
        self.does(revalidate(number, 0))
        self.assertEqual(self.marks(number), [False, True])

    def test_only_open_coupons(self):
        number = self.sell(leg())
        for status in range(1, 10):
            self.force(number, 0, status)
            self.refuses(-9, revalidate(number))
        self.force(number, 0, OPEN)
        self.does(revalidate(number))

    def test_days(self):
        number = self.sell(leg(day=20), last=30)
        self.does(clock(15), 0, 0, 0, 0, 0)
        self.refuses(-7, revalidate(number, day=14))
        self.refuses(-7, revalidate(number, day=31))
        self.does(revalidate(number, day=15))
        self.does(revalidate(number, day=30))

    def test_last_day_is_the_own_ticket_s(self):
        number = self.sell(leg(), last=10)
        self.sell(leg(), last=30)
        self.refuses(-7, revalidate(number, day=11))
        self.does(revalidate(1013, day=11))

    def test_gone_flights(self):
        number = self.sell(leg(), leg(carrier=4))
        self.does(depart(3, 13, 11), 0, 0, 0, 0)
        self.does(cancel(3, 14, 11), 0)
        self.refuses(-7, revalidate(number, 0, 13, 11))
        self.refuses(-7, revalidate(number, 0, 14, 11))
        self.does(revalidate(number, 1, 13, 11))
        self.does(revalidate(number, 0, 13, 12))
        self.does(depart(3, 13, 12), 0, 0, 0, 0)
        self.refuses(-7, revalidate(number, 0, 13, 12))

    def test_order_of_refusals(self):
        number = self.sell(leg())
        self.does(use(TAKE, number))
        self.refuses(-2, revalidate(number + 1, 0, 0, 11))
        self.refuses(-3, revalidate(number + 1, 1, 13, 31))
        self.refuses(-4, revalidate(1013, 1, 13, 31))
        self.refuses(-5, revalidate(number, 1, 13, 31))
        self.refuses(-9, revalidate(number, 0, 13, 31))

    def test_ranges(self):
        number = self.sell(leg(day=0), last=36524)
        for wrong in (9, 10000000000):
            self.refuses(-2, revalidate(wrong))
        for n in (-1, 4):
            self.refuses(-2, revalidate(number, n))
        for num in (0, 10000):
            self.refuses(-2, revalidate(number, 0, num))
        for day in (-1, 36525):
            self.refuses(-2, revalidate(number, 0, 13, day))
        self.does(revalidate(number, 0, 1, 36524))
        self.does(revalidate(number, 0, 9999, 0))

    def test_money_stays_where_it_is(self):
        number = self.sell(leg())
        self.does(revalidate(number))
        self.assert_heaps(cash_in=107)


class SuspendTest(HouseCase):
    def setUp(self):
        super().setUp()
        self.does(stock(100, 199), 100)

    def test_there_and_back(self):
        number = self.sell(leg(), leg())
        self.does(suspend(number, 1, 1))
        self.assertEqual(self.statuses(number), [OPEN, SUSPENDED])
        self.does(suspend(number, 1, 0))
        self.assertEqual(self.statuses(number), [OPEN, OPEN])

    def test_each_status(self):
        number = self.sell(leg())
        for s, wanted, given in ((1, OPEN, SUSPENDED), (0, SUSPENDED, OPEN)):
            for status in range(10):
                self.force(number, 0, status)
                if status == wanted:
                    self.does(suspend(number, 0, s))
                    self.assertEqual(self.statuses(number), [given])
                else:
                    self.refuses(-9, suspend(number, 0, s))

    def test_gone_flights_do_not_matter(self):
        number = self.sell(leg())
        self.does(depart(), 0, 0, 0, 0)
        self.does(suspend(number))
        self.does(suspend(number, 0, 0))

    def test_the_mark_stays(self):
        number = self.sell(leg())
        self.does(suspend(number))
        self.does(cancel(), 1)
        self.does(suspend(number, 0, 0))
        self.assertEqual(self.marks(number), [True])
        self.assertEqual(self.statuses(number), [OPEN])

    def test_order_of_refusals(self):
        number = self.sell(leg())
        self.does(use(TAKE, number))
        self.refuses(-2, suspend(number + 1, 0, 2))
        self.refuses(-3, suspend(number + 1, 1))
        self.refuses(-4, suspend(1013, 1))
        self.refuses(-5, suspend(number, 1))
        self.refuses(-9, suspend(number, 0))
        self.assertEqual(self.statuses(number), [CONTROLLED])

    def test_ranges(self):
        number = self.sell(leg(), leg(), leg(), leg())
        for wrong in (9, 10000000000):
            self.refuses(-2, suspend(wrong))
        for n in (-1, 4):
            self.refuses(-2, suspend(number, n))
        for s in (-1, 2):
            self.refuses(-2, suspend(number, 0, s))
        self.does(suspend(number, 3, 1))
