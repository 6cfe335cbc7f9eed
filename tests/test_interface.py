import random
import unittest

from couponhouse.house import answers
from tests.support import BOARD, CHECK_IN, HouseCase, TAKE
from tests.support import cancel, clock, credit, depart, exchange, exchange_rows, heaps, issue, leg, lifted, number_of
from tests.support import on, refund, revalidate, run, stock, suspend, ticket, tickets, use, valid, void


def refuse_change(*args, **kwargs):
    raise AssertionError("what was handed in is changed")


class Untouchable(list):
    append = extend = insert = pop = remove = clear = sort = reverse = refuse_change
    __setitem__ = __delitem__ = __iadd__ = __imul__ = refuse_change


LINE = [
    *clock(2), *stock(100, 109), *issue([leg(), leg(num=13)]), *issue([leg()], credit_ids=[1]),
    *use(TAKE, 1002), *depart(), *cancel(3, 13, 10), *revalidate(1002, 1, 14, 11), *suspend(1002, 0),
    *void(1002), *clock(1),
    *exchange([(1002, 1)], [leg(num=15)], 20, 0), *exchange([(1013, 0)], [leg(num=15, value=50)], 20, 0),
    *use(TAKE, 1024), *use(CHECK_IN, 1024), *use(BOARD, 1024), *depart(3, 15, 10), *suspend(1002, 0, 0),
    *refund(1002, [0], 3), *credit(1), *credit(2), *ticket(1024), *heaps(), *lifted(3), *on(3, 15, 10),
    *valid(1002), *valid(1003), *tickets(),
]

ALL_CALLS = (
    stock(100, 109), clock(2), issue([leg(), leg(num=13), leg(num=14)]), use(TAKE, 1002), depart(), cancel(num=13),
    issue([leg(num=14)]), void(1013), revalidate(1002, 1, 15, 11), suspend(1002, 2),
    exchange([(1002, 1)], [leg(num=16, value=1)]), refund(1002, [0]), credit(1), ticket(1002), heaps(),
    lifted(), on(), valid(1002), tickets(),
)


class AnswersTest(unittest.TestCase):
    def test_each_answer_has_its_count_before_it(self):
        self.assertEqual(answers(LINE), [
            6, 0, 0, 0, 0, 0, 0, 2, 0, 10, 3, 0, 1002, 214, 1, -8,
            1, 0, 5, 0, 0, 0, 0, 1, 2, 0, 1, 1, 0, 1, 0,
            1, -9, 1, -13,
            7, 0, 1013, 20, 0, 0, 0, 20, 7, 0, 1024, 0, 0, 1, 30, 20,
            1, 0, 1, 0, 1, 0, 5, 0, 1, 50, 7, 0, 1, 0,
            3, 0, 104, 3, 4, 0, 5, 30, 367, 1, -8, 13, 0, 5, 2, 30, 3, 15, 10, 1, 2, 50, 7, 4, 0,
            7, 0, 234, 104, 50, 43, 7, 30, 2, 0, 50, 4, 0, 1024, 0, 4,
            2, 0, 1, 2, 0, 0, 4, 0, 1002, 1013, 1024,
        ])

    def test_every_call_is_there(self):
        places = [call[0] for call in ALL_CALLS]
        self.assertEqual(sorted(set(places)), list(range(18)))
        for answer in run(*ALL_CALLS):
            self.assertEqual(answer[0], 0)

    def test_answers_of_nothing_more_are_counted_too(self):
        self.assertEqual(answers([*on(), *tickets(), *heaps()]), [1, 0, 1, 0, 7, 0, 0, 0, 0, 0, 0, 0])

    def test_kinds(self):
        told = answers(LINE)
        self.assertIs(type(told), list)
        self.assertEqual({type(number) for number in told}, {int})

    def test_what_is_handed_in_stays(self):
        handed = Untouchable(LINE)
        answers(handed)
        self.assertEqual(list(handed), LINE)

    def test_twice_the_same(self):
        first = answers(LINE)
        second = answers(LINE)
        self.assertEqual(first, second)
        self.assertIsNot(first, second)

    def test_each_house_is_new(self):
        answers([*clock(50), *stock(1, 9), *issue([leg(day=60)], last=60), *depart()])
        told = run(stock(1, 9), issue([leg(day=0)]), clock(0), depart())
        self.assertEqual(told, [[0, 9], [0, 11, 107], [0, 0, 0, 0, 0, 0], [0, 0, 0, 0, 0]])

    def test_changing_what_came_back_changes_nothing(self):
        told = answers(LINE)
        told.clear()
        self.assertNotEqual(answers(LINE), [])

    def test_400_calls(self):
        told = run(*[clock(day) for day in range(400)])
        self.assertEqual(told, [[0, 0, 0, 0, 0, 0]] * 400)

    def test_rows_of_none_to_40_numbers_are_read_over(self):
        for many in range(41):
            for others in range(41):
                call = [2, 5, 30, many, *[0] * many, others, *[0] * others]
                self.assertEqual(run(call, clock(1), clock(0)), [[-2], [0, 0, 0, 0, 0, 0], [-13]])


class ReadOverTest(unittest.TestCase):
    """Whatever a call answers, the call behind it is found."""

    def test_every_call(self):
        for call in ALL_CALLS:
            told = run(stock(200, 209), call, clock(50), clock(49))
            self.assertEqual(told[2][0], 0)
            self.assertEqual(told[3], [-13])

    def test_rows_of_exchange(self):
        for many in range(41):
            for others in range(41):
                call = exchange_rows([0] * many, [0] * others)
                self.assertEqual(run(call, clock(1), clock(0)), [[-2], [0, 0, 0, 0, 0, 0], [-13]])

    def test_rows_of_refund(self):
        for many in range(41):
            told = run(refund(1002, [0] * many), clock(1), clock(0))
            self.assertEqual(told, [[-4 if many in (1, 2, 3, 4) else -2], [0, 0, 0, 0, 0, 0], [-13]])

    def test_rows_from_which_calls_could_be_read(self):
        row = [0, 5, 0, 6, 13, 17]
        self.assertEqual(run(exchange_rows(row, row), refund(1002, row[:5]), tickets()), [[-2], [-2], [0]])

    def test_largest_and_least_numbers(self):
        far = 10 ** 12
        for number in (-far, far):
            calls = (
                clock(number), stock(number, number), issue([[number] * 7], number, number, [number]), void(number),
                use(number, number, number, number), depart(number, number, number), cancel(number, number, number),
                revalidate(number, number, number, number), suspend(number, number, number),
                exchange([(number, number)], [[number] * 7], number, number, number),
                refund(number, [number], number), credit(number), ticket(number), lifted(number),
                on(number, number, number), valid(number),
            )
            self.assertEqual(run(*calls), [[-2]] * 16)


class RefusedTest(unittest.TestCase):
    """Refused calls between others, through the way in alone: what is asked before and behind is the same."""

    BEFORE = (
        stock(100, 102), issue([leg(), leg(num=13), leg()]), issue([leg()], passenger=6),
        exchange([(1002, 0)], [leg(value=50)], 10), use(TAKE, 1002, 1), cancel(3, 20, 10), clock(2),
    )
    ASKED = (
        heaps(), tickets(), ticket(1002), ticket(1013), ticket(1024), credit(1), credit(2), on(), on(num=13), lifted(),
    )
    REFUSED = (
        (-2, exchange([(1002, 2)], [leg()], -1)), (-2, exchange([(1002, 2)], [leg()], 0, 3)),
        (-3, exchange([(1002, 2), (1003, 0)], [leg()])), (-4, exchange([(1002, 2), (1035, 0)], [leg()])),
        (-5, exchange([(1002, 2), (1002, 3)], [leg()])), (-9, exchange([(1002, 2), (1002, 1)], [leg()])),
        (-15, exchange([(1002, 2), (1002, 2)], [leg()])), (-15, exchange([(1002, 2), (1013, 0)], [leg()])),
        (-7, exchange([(1002, 2)], [leg(), leg(num=20)])), (-7, exchange([(1002, 2)], [leg(day=1)], last=1)),
        (-14, exchange([(1002, 2)], [leg(value=1)])), (-2, refund(1002, [2], -1)), (-2, refund(1002, [2, 2, 2, 2, 2])),
        (-3, refund(1003, [2])), (-4, refund(1035, [2])), (-5, refund(1002, [2, 3])), (-9, refund(1002, [2, 1])),
        (-15, refund(1002, [2, 2])), (-2, credit(0)), (-8, credit(2)), (-2, ticket(9)), (-3, ticket(1003)),
        (-4, ticket(1035)), (-2, lifted(676)), (-2, on(3, 0, 10)), (-2, valid(9)),
        (-14, issue([leg()], credit_ids=[1])), (-8, issue([leg()], credit_ids=[1, 1])), (-9, void(1024)),
        (-13, clock(1)),
    )

    def test_refusals_change_nothing(self):
        asked = run(*self.BEFORE, *self.ASKED)[len(self.BEFORE):]
        self.assertEqual(asked[0], [0, 428, 0, 0, 10, 0, 418])
        self.assertEqual(asked[5:7], [[0, 5, 40, 365], [-8]])
        for refusal, call in self.REFUSED:
            told = run(*self.BEFORE, call, *self.ASKED)[len(self.BEFORE):]
            self.assertEqual(told, [[refusal], *asked], call)

    def test_all_in_one_line(self):
        asked = run(*self.BEFORE, *self.ASKED)[len(self.BEFORE):]
        told = run(*self.BEFORE, *[call for refusal, call in self.REFUSED], *self.ASKED)[len(self.BEFORE):]
        self.assertEqual(told, [[refusal] for refusal, call in self.REFUSED] + asked)


class ManyLinesTest(HouseCase):
    """Whatever comes, refusals change nothing and the money adds up (the case looks at each call)."""

    def any_legs(self, chance):
        day = self.house.today
        return [leg(chance.randint(1, 2), chance.randint(1, 3), day + chance.randint(0, 3), k, k + 1,
                    chance.randint(0, 99), chance.randint(0, 9)) for k in range(chance.randint(1, 4))]

    def any_ticket(self, chance):
        many = len(self.house.tickets)
        return number_of(100 + chance.randint(max(many - 3, 0), many))

    def any_old(self, chance):
        """Mostly coupons that are open and of one passenger."""
        passenger = chance.randint(1, 2)
        found = [(one.number, n) for one in self.house.tickets for n, coupon in enumerate(one.coupons)
                 if coupon.status == 0 and one.passenger == passenger]
        chance.shuffle(found)
        old = found[:chance.randint(1, 3)]
        if not old or chance.randint(0, 4) == 0:
            old.append((self.any_ticket(chance), chance.randint(0, 2)))
        return old

    def any_call(self, chance):
        day = self.house.today
        number = self.any_ticket(chance)
        n = chance.randint(0, 2)
        penalty = chance.choice((0, 5, 60))
        flight = (chance.randint(1, 2), chance.randint(1, 3), day + chance.randint(0, 3))
        credit_ids = [chance.randint(1, 4) for k in range(chance.randint(0, 2))]
        old = self.any_old(chance)
        return chance.choice((
            clock(day + chance.randint(-1, 1)), clock(day), void(number), depart(*flight), cancel(*flight),
            issue(self.any_legs(chance), chance.randint(1, 2), day + 4, credit_ids),
            issue(self.any_legs(chance), chance.randint(1, 2), day + 4),
            revalidate(number, n, flight[1], flight[2]), suspend(number, n, chance.randint(0, 1)),
            *[use(verb, number, n, flight[0]) for verb in (1, 1, 2, 3, 3, 4, 5, 5, 6)],
            *[exchange(old, self.any_legs(chance), penalty, mode, day + 4) for mode in (0, 0, 1, 2)],
            refund(old[0][0], [old[0][1]], penalty), refund(number, [0, n], penalty),
        ))

    def test_many_lines(self):
        seen = set()
        for seed in range(60):
            chance = random.Random(seed)
            self.begin_anew()
            self.does(stock(100, 150), 51)
            for k in range(150):
                call = self.any_call(chance)
                seen.add((call[0], self.ask(call)[0]))
            if seed % 2:
                self.assertEqual(self.ask(clock(self.house.today + 400))[0], 0)
            self.compare_with_answers()
        for place in (0, 2, 3, 4, 5, 6, 7, 8, 9, 10):
            self.assertIn((place, 0), seen)
        for refusal in (-4, -5, -9, -10, -11, -12):
            self.assertIn((4, refusal), seen)
        for refusal in (-4, -5, -7, -9):
            self.assertIn((9, refusal), seen)
        for refusal in (-4, -5, -9, -15):
            self.assertIn((10, refusal), seen)
