from tests.support import HouseCase, issue, leg, number_of, stock, void


class StockTest(HouseCase):
    def test_forms_are_counted(self):
        self.does(stock(10, 19), 10)
        self.does(stock(5, 5), 11)
        self.does(stock(20, 21), 13)

    def test_taken_forms_are_not_counted(self):
        self.does(stock(10, 11), 2)
        self.does(void(self.sell(leg())), 107, 0)
        self.does(stock(20, 21), 3)

    def test_hi_below_lo(self):
        self.refuses(-14, stock(10, 9))
        self.refuses(-14, stock(999999999, 1))
        self.does(stock(10, 10), 1)

    def test_overlaps(self):
        self.does(stock(100, 199), 100)
        for lo, hi in ((100, 199), (50, 100), (199, 250), (150, 150), (50, 250), (100, 100), (199, 199)):
            self.refuses(-14, stock(lo, hi))
        self.does(stock(50, 99), 150)
        self.does(stock(200, 250), 201)

    def test_overlap_with_a_taken_form(self):
        self.does(stock(7, 7), 1)
        self.sell(leg())
        self.refuses(-14, stock(7, 7))
        self.refuses(-14, stock(1, 9))

    def test_overlap_with_any_range(self):
        for lo in (10, 20, 30):
            self.ask(stock(lo, lo + 1))
        for lo in (10, 20, 30):
            self.refuses(-14, stock(lo + 1, lo + 2))

    def test_eight_ranges(self):
        for k in range(1, 9):
            self.does(stock(10 * k, 10 * k), k)
        self.refuses(-6, stock(1000, 1001))
        self.refuses(-14, stock(10, 10))
        self.refuses(-14, stock(1001, 1000))

    def test_ranges_of_lo_and_hi(self):
        for lo, hi in ((0, 5), (5, 0), (-1, 5), (5, 1000000000), (1000000000, 1000000000), (0, 0)):
            self.refuses(-2, stock(lo, hi))
        self.does(stock(1, 999999999), 999999999)

    def test_forms_are_taken_in_the_order_of_loading(self):
        self.does(stock(50, 51), 2)
        self.does(stock(999999999, 999999999), 3)
        self.does(stock(1, 2), 5)
        found = [self.sell(leg()) for k in range(5)]
        self.assertEqual(found, [501, 512, 9999999995, 11, 22])
        self.assertEqual(found, [number_of(form) for form in (50, 51, 999999999, 1, 2)])
        self.refuses(-14, issue([leg()]))
        self.does(stock(7, 7), 1)
        self.assertEqual(self.sell(leg()), 70)

    def test_void_frees_no_form(self):
        self.does(stock(50, 50), 1)
        self.does(void(self.sell(leg())), 107, 0)
        self.refuses(-14, issue([leg()]))
