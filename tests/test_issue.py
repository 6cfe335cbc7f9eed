from tests.support import HouseCase, OPEN
from tests.support import cancel, clock, depart, issue, issue_row, leg, number_of, stock, void

MOST = 1000000000


class IssueTest(HouseCase):
    def setUp(self):
        super().setUp()
        self.does(stock(100, 199), 100)

    def test_numbers_and_cash(self):
        self.does(issue([leg(value=100, tax=7)]), 1002, 107)
        self.does(issue([leg(value=0, tax=0)]), 1013, 0)
        self.does(issue([leg(), leg(value=1, tax=2), leg(), leg(value=4, tax=8)]), 1024, 229)
        self.assert_heaps(cash_in=336)

    def test_largest_price(self):
        self.does(issue([leg(value=MOST, tax=MOST)] * 4), 1002, 8 * MOST)

    def test_ticket_is_kept_as_told(self):
        self.does(clock(4), 0, 0, 0, 0, 0)
        legs = [leg(3, 12, 10, 1, 2, 100, 7), leg(0, 1, 4, 17575, 0, 5, 6), leg(675, 9999, 30, 2, 1, 8, 9)]
        number = self.sell(*legs, passenger=77, last=30)
        ticket = self.house.ticket_of[number]
        found = [[c.carrier, c.num, c.day, c.origin, c.goal, c.value, c.tax] for c in ticket.coupons]
        self.assertEqual(found, legs)
        self.assertEqual(self.statuses(number), [OPEN] * 3)
        self.assertEqual(self.marks(number), [False] * 3)
        self.assertEqual((ticket.passenger, ticket.issued, ticket.last), (77, 4, 30))
        self.assertFalse(ticket.in_exchange)

    def test_from_and_to_alike(self):
        self.refuses(-7, issue([leg(origin=9, goal=9)]))
        self.refuses(-7, issue([leg(), leg(origin=9, goal=9)]))

    def test_days(self):
        self.does(clock(10), 0, 0, 0, 0, 0)
        self.refuses(-7, issue([leg(day=9)], last=30))
        self.refuses(-7, issue([leg(day=31)], last=30))
        self.refuses(-7, issue([leg(day=10), leg(day=31)], last=30))
        self.refuses(-7, issue([leg(day=10), leg(day=9), leg(day=10)], last=30))
        self.refuses(-7, issue([leg(day=10)], last=9))
        self.refuses(-7, issue([leg(day=9)], last=9))
        self.does(issue([leg(day=10), leg(day=30)], last=30), 1002, 214)
        self.does(issue([leg(day=10)], last=10), 1013, 107)

    def test_coupons_need_not_stand_in_the_order_of_days(self):
        self.does(issue([leg(day=20), leg(day=10)]), 1002, 214)

    def test_gone_flights(self):
        self.does(depart(3, 12, 10), 0, 0, 0, 0)
        self.does(cancel(3, 13, 10), 0)
        self.refuses(-7, issue([leg(3, 12, 10)]))
        self.refuses(-7, issue([leg(3, 14, 10), leg(3, 13, 10)]))
        self.does(issue([leg(4, 12, 10), leg(3, 14, 10), leg(3, 12, 11)]), 1002, 321)

    def test_no_such_credit(self):
        for credit_id in (1, 2, 64):
            self.refuses(-8, issue([leg()], credit_ids=[credit_id]))

    def test_wrong_credits(self):
        mine = self.add_credit(5, 40, 365)
        other = self.add_credit(6, 40, 365)
        self.refuses(-8, issue([leg()], credit_ids=[other]))
        self.refuses(-8, issue([leg()], credit_ids=[mine, other]))
        self.refuses(-8, issue([leg()], credit_ids=[mine, mine]))
        self.refuses(-8, issue([leg()], credit_ids=[mine, 3]))
        self.does(issue([leg()], credit_ids=[mine]), 1002, 67)

    def test_credits_are_drawn_in_the_order_named(self):
        for amount in (60, 50, 0, 30):
            self.add_credit(5, amount, 365)
        self.does(issue([leg(value=93, tax=7)], credit_ids=[2, 3, 1]), 1002, 0)
        self.assertEqual(self.amounts(), [10, 0, 0, 30])
        self.does(issue([leg(value=93, tax=7)], credit_ids=[4, 2, 3, 1]), 1013, 60)
        self.assertEqual(self.amounts(), [0, 0, 0, 0])
        self.assert_heaps(cash_in=200)

    def test_credit_is_not_drawn_beyond_the_price(self):
        self.add_credit(5, 60, 365)
        self.add_credit(5, 60, 365)
        self.does(issue([leg(value=50, tax=0)], credit_ids=[1, 2]), 1002, 0)
        self.assertEqual(self.amounts(), [10, 60])

    def test_64_tickets(self):
        for k in range(64):
            self.does(issue([leg()]), number_of(100 + k), 107)
        self.refuses(-6, issue([leg()]))
        self.does(void(1002), 107, 0)
        self.refuses(-6, issue([leg()]))

    def test_no_form(self):
        self.begin_anew()
        self.refuses(-14, issue([leg()]))
        self.does(stock(1, 1), 1)
        self.does(issue([leg()]), 11, 107)
        self.refuses(-14, issue([leg()]))

    def test_order_of_refusals(self):
        self.begin_anew()
        bad = [leg(origin=9, goal=9)]
        self.refuses(-2, issue(bad, passenger=0, credit_ids=[1]))
        self.refuses(-7, issue(bad, credit_ids=[1]))
        self.refuses(-8, issue([leg()], credit_ids=[1]))
        self.refuses(-14, issue([leg()]))
        self.does(stock(1, 64), 64)
        for k in range(64):
            self.sell(leg())
        self.refuses(-7, issue(bad, credit_ids=[1]))
        self.refuses(-8, issue([leg()], credit_ids=[1]))
        self.refuses(-6, issue([leg()]))

    def test_ranges_of_plain_arguments(self):
        for passenger in (0, -1, MOST + 1):
            self.refuses(-2, issue([leg()], passenger=passenger))
        for last in (-1, 36525):
            self.refuses(-2, issue([leg()], last=last))
        self.does(issue([leg()], passenger=1, last=36524), 1002, 107)
        self.does(issue([leg(day=0)], passenger=MOST, last=0), 1013, 107)

    def test_ranges_of_coupons(self):
        bounds = ((0, 675), (1, 9999), (0, 36524), (0, 17575), (0, 17575), (0, MOST), (0, MOST))
        for k, (low, high) in enumerate(bounds):
            for outside in (low - 1, high + 1):
                wrong = leg()
                wrong[k] = outside
                self.refuses(-2, issue([wrong]))
                self.refuses(-2, issue([leg(), leg(), leg(), wrong]))
            for inside in (low, high):
                fitting = leg()
                fitting[k] = inside
                self.sell(leg(), fitting, last=36524)

    def test_lengths_of_the_coupons_row(self):
        for many in range(41):
            row = (leg() * 6)[:many]
            if many in (7, 14, 21, 28):
                self.assertEqual(self.ask(issue_row(row))[0], 0)
            else:
                self.refuses(-2, issue_row(row))

    def test_lengths_of_the_credits_row(self):
        for k in range(5):
            self.add_credit(5, 1, 365)
        self.refuses(-2, issue([leg()], credit_ids=[1, 2, 3, 4, 5]))
        self.refuses(-2, issue([leg()], credit_ids=[1] * 40))
        self.does(issue([leg()], credit_ids=[1, 2, 3, 4]), 1002, 103)

    def test_range_of_credits(self):
        for credit_id in (0, -1, 65):
            self.refuses(-2, issue([leg()], credit_ids=[credit_id]))
            self.refuses(-2, issue([leg()], credit_ids=[1, credit_id]))
