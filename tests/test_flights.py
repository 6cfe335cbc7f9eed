from tests.support import BOARDED, CHECKED_IN, CONTROLLED, ENDED, FLOWN, OPEN, SUSPENDED
from tests.support import BOARD, HouseCase, TAKE
from tests.support import cancel, depart, issue, leg, revalidate, stock, use


class FlightCase(HouseCase):
    def setUp(self):
        super().setUp()
        self.does(stock(100, 199), 100)

    def sell_with(self, *statuses_and_legs):
        """A ticket of legs whose coupons have these statuses, whether calls lead there or not."""
        number = self.sell(*[one for status, one in statuses_and_legs])
        for n, (status, one) in enumerate(statuses_and_legs):
            self.force(number, n, status)
        return number


class DepartTest(FlightCase):
    def test_boarded_are_flown(self):
        first = self.sell(leg(value=1, tax=2), leg(num=13))
        second = self.sell(leg(value=4, tax=8))
        self.bring(first, 0, BOARDED)
        self.bring(second, 0, BOARDED)
        self.does(depart(), 2, 5, 10, 0)
        self.assertEqual(self.statuses(first), [FLOWN, OPEN])
        self.assertEqual(self.statuses(second), [FLOWN])

    def test_each_status(self):
        left = {BOARDED: FLOWN, CHECKED_IN: OPEN, CONTROLLED: OPEN}
        for status in range(10):
            number = self.sell_with((status, leg(num=20 + status)))
            flown = status == BOARDED
            back = status in (CHECKED_IN, CONTROLLED)
            self.does(depart(num=20 + status), int(flown), 100 * flown, 7 * flown, int(back))
            self.assertEqual(self.statuses(number), [left.get(status, status)])
            self.assertEqual(self.marks(number), [False])

    def test_only_this_flight(self):
        others = (leg(carrier=4), leg(num=13), leg(day=11))
        for one in others:
            self.bring(self.sell(one), 0, BOARDED, carrier=one[0])
            self.bring(self.sell(one), 0, CHECKED_IN, carrier=one[0])
        self.does(depart(), 0, 0, 0, 0)
        for ticket in self.house.tickets:
            self.assertIn(self.statuses(ticket.number), ([BOARDED], [CHECKED_IN]))

    def test_later_check_ins_are_taken_back(self):
        number = self.sell(leg(), leg(num=13), leg(num=14), leg(num=15))
        for n in range(3):
            self.bring(number, n, CHECKED_IN)
        self.does(use(TAKE, number, 3))
        other = self.sell(leg(num=13))
        self.bring(other, 0, CHECKED_IN)
        self.does(depart(), 0, 0, 0, 1)
        self.assertEqual(self.statuses(number), [OPEN, CONTROLLED, CONTROLLED, CONTROLLED])
        self.assertEqual(self.statuses(other), [CHECKED_IN])

    def test_later_check_ins_stay_behind_a_flown_one(self):
        number = self.sell(leg(), leg(num=13))
        self.bring(number, 0, CHECKED_IN)
        self.bring(number, 1, CHECKED_IN)
        self.does(use(BOARD, number, 0))
        self.does(depart(), 1, 100, 7, 0)
        self.assertEqual(self.statuses(number), [FLOWN, CHECKED_IN])

    def test_earlier_check_ins_stay(self):
        number = self.sell(leg(num=13), leg(), leg(num=14))
        for n in range(3):
            self.bring(number, n, CHECKED_IN)
        self.does(depart(), 0, 0, 0, 1)
        self.assertEqual(self.statuses(number), [CHECKED_IN, OPEN, CONTROLLED])

    def test_behind_each_status(self):
        for status in range(10):
            number = self.sell_with((status, leg(num=20 + status)), (CHECKED_IN, leg()))
            self.ask(depart(num=20 + status))
            after = CONTROLLED if status in (CHECKED_IN, CONTROLLED) else CHECKED_IN
            self.assertEqual(self.coupon(number, 1).status, after)

    def test_later_ones_of_each_status(self):
        for status in range(10):
            number = self.sell_with((CHECKED_IN, leg(num=20 + status)), (status, leg()))
            self.does(depart(num=20 + status), 0, 0, 0, 1)
            after = CONTROLLED if status == CHECKED_IN else status
            self.assertEqual(self.statuses(number), [OPEN, after])

    def test_the_same_flight_twice_in_a_ticket(self):
        number = self.sell(leg(), leg(num=13), leg())
        for n in range(3):
            self.bring(number, n, CHECKED_IN)
        self.does(depart(), 0, 0, 0, 2)
        self.assertEqual(self.statuses(number), [OPEN, CONTROLLED, OPEN])

    def test_flown_and_put_back_in_one_ticket(self):
        number = self.sell(leg(), leg(), leg(num=13))
        self.bring(number, 0, BOARDED)
        self.bring(number, 1, CHECKED_IN)
        self.bring(number, 2, CHECKED_IN)
        self.does(depart(), 1, 100, 7, 1)
        self.assertEqual(self.statuses(number), [FLOWN, OPEN, CONTROLLED])

    def test_gone_already(self):
        self.does(depart(), 0, 0, 0, 0)
        self.refuses(-11, depart())
        self.refuses(-11, cancel())
        self.does(depart(carrier=4), 0, 0, 0, 0)
        self.does(depart(num=13), 0, 0, 0, 0)
        self.does(depart(day=11), 0, 0, 0, 0)

    def test_64_gone(self):
        for num in range(1, 65):
            self.does(depart(num=num), 0, 0, 0, 0)
        self.refuses(-6, depart(num=65))
        self.refuses(-6, cancel(num=65))
        self.refuses(-11, depart(num=64))
        self.refuses(-11, cancel(num=1))
        self.assertEqual(self.ask(issue([leg(num=65)]))[0], 0)

    def test_ranges(self):
        for carrier, num, day in ((-1, 1, 0), (676, 1, 0), (0, 0, 0), (0, 10000, 0), (0, 1, -1), (0, 1, 36525)):
            self.refuses(-2, depart(carrier, num, day))
        self.does(depart(0, 1, 0), 0, 0, 0, 0)
        self.does(depart(675, 9999, 36524), 0, 0, 0, 0)


class CancelTest(FlightCase):
    def test_each_status(self):
        for status in range(10):
            number = self.sell_with((status, leg(num=20 + status)))
            lives = status not in ENDED
            self.does(cancel(num=20 + status), int(lives))
            after = OPEN if lives and status != SUSPENDED else status
            self.assertEqual(self.statuses(number), [after])
            self.assertEqual(self.marks(number), [lives])

    def test_only_this_flight(self):
        for one in (leg(carrier=4), leg(num=13), leg(day=11)):
            self.bring(self.sell(one), 0, BOARDED, carrier=one[0])
        number = self.sell(leg(num=13), leg())
        self.does(cancel(), 1)
        self.assertEqual(self.marks(number), [False, True])
        for ticket in self.house.tickets[:3]:
            self.assertEqual(self.statuses(ticket.number), [BOARDED])
            self.assertEqual(self.marks(ticket.number), [False])

    def test_later_check_ins_are_taken_back(self):
        number = self.sell(leg(num=13), leg(), leg(num=14), leg(num=15))
        for n in range(4):
            self.bring(number, n, CHECKED_IN)
        other = self.sell(leg(num=14))
        self.bring(other, 0, CHECKED_IN)
        self.does(cancel(), 1)
        self.assertEqual(self.statuses(number), [CHECKED_IN, OPEN, CONTROLLED, CONTROLLED])
        self.assertEqual(self.marks(number), [False, True, False, False])
        self.assertEqual(self.statuses(other), [CHECKED_IN])

    def test_behind_each_status(self):
        for status in range(10):
            number = self.sell_with((status, leg(num=20 + status)), (CHECKED_IN, leg()))
            self.ask(cancel(num=20 + status))
            after = CHECKED_IN if status in ENDED else CONTROLLED
            self.assertEqual(self.coupon(number, 1).status, after)

    def test_later_ones_of_each_status(self):
        for status in range(10):
            number = self.sell_with((BOARDED, leg(num=20 + status)), (status, leg()))
            self.does(cancel(num=20 + status), 1)
            after = CONTROLLED if status == CHECKED_IN else status
            self.assertEqual(self.statuses(number), [OPEN, after])

    def test_the_same_flight_twice_in_a_ticket(self):
        number = self.sell(leg(), leg(num=13), leg())
        for n in range(3):
            self.bring(number, n, CHECKED_IN)
        self.does(cancel(), 2)
        self.assertEqual(self.statuses(number), [OPEN, CONTROLLED, OPEN])
        self.assertEqual(self.marks(number), [True, False, True])

    def test_counts_over_tickets(self):
        for k in range(3):
            self.sell(leg(), leg())
        self.does(cancel(), 6)

    def test_moved_coupons_count_where_they_are_now(self):
        number = self.sell(leg(), leg())
        self.does(revalidate(number, 0, 13, 10))
        self.does(cancel(num=13), 1)
        self.does(cancel(num=12), 1)

    def test_gone_already(self):
        self.does(cancel(), 0)
        self.refuses(-11, cancel())
        self.refuses(-11, depart())

    def test_64_gone(self):
        for num in range(1, 65):
            self.does(cancel(num=num), 0)
        self.refuses(-6, cancel(num=65))
        self.refuses(-6, depart(num=65))
        self.refuses(-11, cancel(num=64))

    def test_ranges(self):
        for carrier, num, day in ((-1, 1, 0), (676, 1, 0), (0, 0, 0), (0, 10000, 0), (0, 1, -1), (0, 1, 36525)):
            self.refuses(-2, cancel(carrier, num, day))
        self.does(cancel(0, 1, 0), 0)
        self.does(cancel(675, 9999, 36524), 0)
