"""What is kept: the house, its tickets with their coupons, its credits."""

OPEN = 0
CONTROLLED = 1
CHECKED_IN = 2
BOARDED = 3
FLOWN = 4
EXCHANGED = 5
REFUNDED = 6
VOID = 7
RUN_OUT = 8
SUSPENDED = 9


class Coupon:
    def __init__(self, carrier, num, day, origin, goal, value, tax):
        self.carrier = carrier
        self.num = num
        self.day = day
        self.origin = origin
        self.goal = goal
        self.value = value
        self.tax = tax
        self.status = OPEN
        self.free = False

    def worth(self):
        return self.value + self.tax

    def flight(self):
        return (self.carrier, self.num, self.day)

    def has_ended(self):
        return self.status in (FLOWN, EXCHANGED, REFUNDED, VOID, RUN_OUT)


def values_of(coupons):
    return sum([coupon.value for coupon in coupons])


def taxes_of(coupons):
    return sum([coupon.tax for coupon in coupons])


def worths_of(coupons):
    return sum([coupon.worth() for coupon in coupons])


class Ticket:
    """A ticket; drawn holds a pair of a credit and an amount for each credit that helped to pay."""

    def __init__(self, number, passenger, issued, last, coupons, cash, drawn, in_exchange):
        self.number = number
        self.passenger = passenger
        self.issued = issued
        self.last = last
        self.coupons = coupons
        self.cash = cash
        self.drawn = drawn
        self.in_exchange = in_exchange


class Credit:
    """A credit; its id is its place in the house's table, counted from 1."""

    def __init__(self, passenger, amount, last):
        self.passenger = passenger
        self.amount = amount
        self.last = last


class House:
    """The whole house; tickets stand in the order of issue, gone holds True for each gone flight."""

    def __init__(self):
        self.today = 0
        self.ranges = []
        self.tickets = []
        self.ticket_of = {}
        self.credit_table = []
        self.gone = {}
        self.cash_in = 0
        self.cash_out = 0
        self.kept = 0
