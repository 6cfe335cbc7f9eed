from tests.support import BOARDED, CHECKED_IN, CONTROLLED, FLOWN, OPEN, RUN_OUT, SUSPENDED, VOIDED
from tests.support import GIVE_UP, HouseCase, TAKE
from tests.support import clock, depart, leg, stock, suspend, use, void


class ClockTest(HouseCase):
    def setUp(self):
        super().setUp()
        self.does(stock(1, 100), 100)

    def test_day_moves_on_and_may_stay(self):
        self.does(clock(0), 0, 0, 0, 0, 0)
        self.does(clock(8), 0, 0, 0, 0, 0)
        self.does(clock(8), 0, 0, 0, 0, 0)
        self.assertEqual(self.house.today, 8)

    def test_day_goes_back(self):
        self.does(clock(8), 0, 0, 0, 0, 0)
        self.refuses(-13, clock(7))
        self.refuses(-13, clock(0))
        self.assertEqual(self.house.today, 8)

    def test_range_of_day(self):
        self.refuses(-2, clock(-1))
        self.refuses(-2, clock(36525))
        self.refuses(-2, clock(10 ** 12))
        self.does(clock(36524), 0, 0, 0, 0, 0)
        self.refuses(-2, clock(-10 ** 12))

    def test_last_day_itself_is_no_end(self):
        number = self.sell(leg(day=10), last=10)
        self.does(clock(10), 0, 0, 0, 0, 0)
        self.assertEqual(self.statuses(number), [OPEN])
        self.does(clock(11), 1, 100, 7, 0, 0)
        self.assertEqual(self.statuses(number), [RUN_OUT])
        self.assert_heaps(cash_in=107, kept=100)

    def test_what_ran_out_is_told_once(self):
        self.sell(leg(value=1, tax=2), leg(value=4, tax=8), last=10)
        self.sell(leg(value=16, tax=32), last=20)
        self.does(clock(11), 2, 5, 10, 0, 0)
        self.does(clock(20), 0, 0, 0, 0, 0)
        self.does(clock(21), 1, 16, 32, 0, 0)
        self.does(clock(36524), 0, 0, 0, 0, 0)
        self.assert_heaps(cash_in=63, kept=21)

    def test_suspended_runs_out_too(self):
        number = self.sell(leg(), leg(), last=10)
        self.does(suspend(number, 1))
        self.does(clock(11), 2, 200, 14, 0, 0)
        self.assertEqual(self.statuses(number), [RUN_OUT, RUN_OUT])

    def test_other_statuses_do_not_run_out(self):
        for status in (CONTROLLED, CHECKED_IN, BOARDED):
            number = self.sell(leg(), last=10)
            self.bring(number, 0, status)
        self.does(void(self.sell(leg(), last=10)), 107, 0)
        self.does(clock(11), 0, 0, 0, 0, 0)
        found = [self.statuses(ticket.number) for ticket in self.house.tickets]
        self.assertEqual(found, [[CONTROLLED], [CHECKED_IN], [BOARDED], [VOIDED]])

    def test_flown_does_not_run_out(self):
        number = self.sell(leg(), last=10)
        self.bring(number, 0, BOARDED)
        self.does(depart(), 1, 100, 7, 0)
        self.does(clock(11), 0, 0, 0, 0, 0)
        self.assertEqual(self.statuses(number), [FLOWN])

    def test_opened_again_runs_out_at_the_next_call_of_the_same_day(self):
        number = self.sell(leg(), last=10)
        self.bring(number, 0, CONTROLLED)
        self.does(clock(11), 0, 0, 0, 0, 0)
        self.does(use(GIVE_UP, number))
        self.assertEqual(self.statuses(number), [OPEN])
        self.does(clock(11), 1, 100, 7, 0, 0)
        self.assertEqual(self.statuses(number), [RUN_OUT])

    def test_run_out_coupon_has_ended(self):
        number = self.sell(leg(), last=10)
        self.does(clock(11), 1, 100, 7, 0, 0)
        self.refuses(-9, use(TAKE, number))
        self.refuses(-9, suspend(number))
        self.refuses(-9, suspend(number, s=0))

    def test_credits_run_out(self):
        self.add_credit(5, 40, 10)
        self.add_credit(6, 2, 10)
        self.add_credit(5, 0, 10)
        self.add_credit(5, 800, 11)
        self.does(clock(10), 0, 0, 0, 0, 0)
        self.assertEqual(self.amounts(), [40, 2, 0, 800])
        self.does(clock(11), 0, 0, 0, 2, 42)
        self.assertEqual(self.amounts(), [0, 0, 0, 800])
        self.does(clock(11), 0, 0, 0, 0, 0)
        self.does(clock(12), 0, 0, 0, 1, 800)
        self.assert_heaps(cash_in=842, kept=842)

    def test_credit_of_one_unit_counts(self):
        self.add_credit(5, 1, 10)
        self.does(clock(11), 0, 0, 0, 1, 1)
        self.assertEqual(self.amounts(), [0])

    def test_first_day_is_0(self):
        number = self.sell(leg())
        self.does(clock(0), 0, 0, 0, 0, 0)
        self.does(void(number), 107, 0)

    def test_coupons_and_credits_together(self):
        self.add_credit(5, 40, 10)
        self.sell(leg(value=3, tax=2), last=10)
        self.does(clock(11), 1, 3, 2, 1, 40)
        self.assert_heaps(cash_in=45, kept=43)

    def test_suspended_keeps_its_day_until_then(self):
        number = self.sell(leg(), last=10)
        self.does(suspend(number))
        self.does(clock(10), 0, 0, 0, 0, 0)
        self.assertEqual(self.statuses(number), [SUSPENDED])
