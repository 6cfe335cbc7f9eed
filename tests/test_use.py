from tests.support import BOARDED, CHECKED_IN, CONTROLLED, ENDED, FLOWN, OPEN, SUSPENDED
from tests.support import BOARD, CHECK_IN, GIVE_UP, TAKE, TAKE_OFF, TAKE_OFF_BOARD
from tests.support import HouseCase, cancel, clock, depart, leg, revalidate, stock, suspend, use, void

CHANGES = {
    TAKE: (OPEN, CONTROLLED),
    GIVE_UP: (CONTROLLED, OPEN),
    CHECK_IN: (CONTROLLED, CHECKED_IN),
    TAKE_OFF: (CHECKED_IN, CONTROLLED),
    BOARD: (CHECKED_IN, BOARDED),
    TAKE_OFF_BOARD: (BOARDED, CHECKED_IN),
}


class UseTest(HouseCase):
    def setUp(self):
        super().setUp()
        self.does(stock(100, 199), 100)

    def test_there_and_back(self):
        number = self.sell(leg())
        steps = (TAKE, CHECK_IN, BOARD, TAKE_OFF_BOARD, TAKE_OFF, GIVE_UP)
        found = []
        for verb in steps:
            self.does(use(verb, number))
            found += self.statuses(number)
        self.assertEqual(found, [CONTROLLED, CHECKED_IN, BOARDED, CHECKED_IN, CONTROLLED, OPEN])

    def test_each_verb_from_each_status(self):
        number = self.sell(leg())
        for verb, (wanted, given) in CHANGES.items():
            for status in range(10):
                self.force(number, 0, status)
                if status == wanted:
                    self.does(use(verb, number))
                    self.assertEqual(self.statuses(number), [given])
                else:
                    self.refuses(-9, use(verb, number))

    def test_only_the_named_coupon_changes(self):
        number = self.sell(leg(), leg(), leg())
        self.sell(leg())
        self.does(use(TAKE, number, 1))
        self.assertEqual(self.statuses(number), [OPEN, CONTROLLED, OPEN])
        self.assertEqual(self.statuses(1013), [OPEN])

    def test_control_is_taken_in_any_order(self):
        number = self.sell(leg(), leg(), leg(), leg())
        for n in (3, 1, 2, 0):
            self.does(use(TAKE, number, n))
        for n in (2, 0, 3, 1):
            self.does(use(GIVE_UP, number, n))
        self.assertEqual(self.statuses(number), [OPEN] * 4)

    def test_check_in_looks_at_the_earlier_ones(self):
        for status in range(10):
            for place in (0, 1):
                number = self.sell(leg(), leg(), leg())
                self.force(number, 1 - place, CHECKED_IN)
                self.force(number, place, status)
                self.force(number, 2, CONTROLLED)
                if status in (CHECKED_IN, BOARDED, *ENDED):
                    self.does(use(CHECK_IN, number, 2))
                else:
                    self.refuses(-12, use(CHECK_IN, number, 2))

    def test_check_in_does_not_look_at_later_ones(self):
        for status in range(10):
            number = self.sell(leg(), leg())
            self.force(number, 0, CONTROLLED)
            self.force(number, 1, status)
            self.does(use(CHECK_IN, number, 0))

    def test_take_off_looks_at_the_later_ones(self):
        for status in range(10):
            for place in (1, 2):
                number = self.sell(leg(), leg(), leg())
                self.force(number, 0, CHECKED_IN)
                self.force(number, place, status)
                if status == CHECKED_IN:
                    self.refuses(-12, use(TAKE_OFF, number, 0))
                else:
                    self.does(use(TAKE_OFF, number, 0))

    def test_take_off_does_not_look_at_earlier_ones(self):
        number = self.sell(leg(), leg())
        self.bring(number, 0, CHECKED_IN)
        self.bring(number, 1, CHECKED_IN)
        self.refuses(-12, use(TAKE_OFF, number, 0))
        self.does(use(TAKE_OFF, number, 1))
        self.does(use(TAKE_OFF, number, 0))

    def test_board_looks_at_the_earlier_ones(self):
        for status in range(10):
            for place in (0, 1):
                number = self.sell(leg(), leg(), leg())
                self.force(number, 1 - place, FLOWN)
                self.force(number, place, status)
                self.force(number, 2, CHECKED_IN)
                if status in ENDED:
                    self.does(use(BOARD, number, 2))
                else:
                    self.refuses(-12, use(BOARD, number, 2))

    def test_board_does_not_look_at_later_ones(self):
        for status in range(10):
            number = self.sell(leg(), leg())
            self.force(number, 0, CHECKED_IN)
            self.force(number, 1, status)
            self.does(use(BOARD, number, 0))

    def test_off_board_has_no_order(self):
        for earlier in range(10):
            number = self.sell(leg(), leg(), leg())
            self.force(number, 0, earlier)
            self.force(number, 1, BOARDED)
            self.force(number, 2, CHECKED_IN)
            self.does(use(TAKE_OFF_BOARD, number, 1))

    def test_two_flights_one_after_the_other(self):
        number = self.sell(leg(), leg(num=13))
        self.bring(number, 0, CHECKED_IN)
        self.bring(number, 1, CHECKED_IN)
        self.refuses(-12, use(BOARD, number, 1))
        self.does(use(BOARD, number, 0))
        self.refuses(-12, use(BOARD, number, 1))
        self.does(depart(), 1, 100, 7, 0)
        self.does(use(BOARD, number, 1))
        self.assertEqual(self.statuses(number), [FLOWN, BOARDED])

    def test_another_carrier(self):
        number = self.sell(leg(carrier=3), leg(carrier=4))
        self.refuses(-10, use(TAKE, number, 0, carrier=4))
        self.refuses(-10, use(TAKE, number, 1, carrier=3))
        self.does(use(TAKE, number, 1, carrier=4))

    def test_gone_flights(self):
        number = self.sell(leg(), leg(num=13))
        self.does(depart(), 0, 0, 0, 0)
        self.does(cancel(3, 13, 10), 1)
        self.refuses(-11, use(TAKE, number, 0))
        self.refuses(-11, use(TAKE, number, 1))
        self.does(revalidate(number, 0, 14, 10))
        self.does(use(TAKE, number, 0))

    def test_order_of_refusals(self):
        number = self.sell(leg(), leg(num=13), leg(num=14))
        self.does(depart(), 0, 0, 0, 0)
        self.refuses(-2, use(7, number + 1, 0, carrier=4))
        self.refuses(-3, use(GIVE_UP, number + 1, 3, carrier=4))
        self.refuses(-4, use(GIVE_UP, 1013, 3, carrier=4))
        self.refuses(-5, use(GIVE_UP, number, 3, carrier=4))
        self.refuses(-10, use(GIVE_UP, number, 0, carrier=4))
        self.refuses(-11, use(GIVE_UP, number, 0))
        self.refuses(-9, use(CHECK_IN, number, 1))
        self.does(use(TAKE, number, 1))
        self.refuses(-12, use(CHECK_IN, number, 1))
        self.refuses(-9, use(BOARD, number, 2))

    def test_status_comes_before_order_at_boarding_and_taking_off(self):
        number = self.sell(leg(), leg())
        self.force(number, 1, CHECKED_IN)
        self.refuses(-9, use(TAKE_OFF, number, 0))
        self.force(number, 1, SUSPENDED)
        self.refuses(-9, use(BOARD, number, 1))

    def test_no_such_coupon(self):
        for many in (1, 2, 3, 4):
            number = self.sell(*[leg()] * many)
            for n in range(4):
                if n < many:
                    self.does(use(TAKE, number, n))
                else:
                    self.refuses(-5, use(TAKE, number, n))

    def test_void_ticket(self):
        number = self.sell(leg())
        self.does(void(number), 107, 0)
        self.refuses(-9, use(TAKE, number))

    def test_ranges(self):
        number = self.sell(leg(carrier=0), leg(carrier=675))
        for verb in (0, 7, -1):
            self.refuses(-2, use(verb, number, 0, carrier=0))
        for carrier in (-1, 676):
            self.refuses(-2, use(TAKE, number, 0, carrier=carrier))
        for wrong in (9, 10000000000):
            self.refuses(-2, use(TAKE, wrong, 0, carrier=0))
        for n in (-1, 4):
            self.refuses(-2, use(TAKE, number, n, carrier=0))
        self.does(use(TAKE, number, 0, carrier=0))
        self.does(use(TAKE, number, 1, carrier=675))

    def test_last_day_and_suspension_do_not_hold_back_control(self):
        number = self.sell(leg(), leg(), last=10)
        self.does(suspend(number, 1))
        self.refuses(-9, use(TAKE, number, 1))
        self.does(use(TAKE, number, 0))
        self.does(clock(11), 1, 100, 7, 0, 0)
        self.does(use(CHECK_IN, number, 0))
