import random
import unittest

from couponhouse.house import answers
from tests.support import HouseCase, TAKE
from tests.support import cancel, clock, depart, issue, leg, number_of, revalidate, run, stock, suspend, use, void


def refuse_change(*args, **kwargs):
    raise AssertionError("what was handed in is changed")


class Untouchable(list):
    append = extend = insert = pop = remove = clear = sort = reverse = refuse_change
    __setitem__ = __delitem__ = __iadd__ = __imul__ = refuse_change


LINE = [
    *clock(2), *stock(100, 109), *issue([leg(), leg(num=13)]), *issue([leg()], credit_ids=[1]),
    *use(TAKE, 1002), *depart(), *cancel(3, 13, 10), *revalidate(1002, 1, 14, 11), *suspend(1002, 0),
    *void(1002), *clock(1),
]


class AnswersTest(unittest.TestCase):
    def test_each_answer_has_its_count_before_it(self):
        self.assertEqual(answers(LINE), [
            6, 0, 0, 0, 0, 0, 0, 2, 0, 10, 3, 0, 1002, 214, 1, -8,
            1, 0, 5, 0, 0, 0, 0, 1, 2, 0, 1, 1, 0, 1, 0,
            1, -9, 1, -13,
        ])

    def test_kinds(self):
        told = answers(LINE)
        self.assertIs(type(told), list)
        self.assertEqual({type(number) for number in told}, {int})

    def test_what_is_handed_in_stays(self):
        handed = Untouchable(LINE)
        answers(handed)
        self.assertEqual(list(handed), LINE)

    def test_twice_the_same(self):
        first = answers(LINE)
        second = answers(LINE)
        self.assertEqual(first, second)
        self.assertIsNot(first, second)

    def test_each_house_is_new(self):
        answers([*clock(50), *stock(1, 9), *issue([leg(day=60)], last=60), *depart()])
        told = run(stock(1, 9), issue([leg(day=0)]), clock(0), depart())
        self.assertEqual(told, [[0, 9], [0, 11, 107], [0, 0, 0, 0, 0, 0], [0, 0, 0, 0, 0]])

    def test_changing_what_came_back_changes_nothing(self):
        told = answers(LINE)
        told.clear()
        self.assertNotEqual(answers(LINE), [])

    def test_400_calls(self):
        told = run(*[clock(day) for day in range(400)])
        self.assertEqual(told, [[0, 0, 0, 0, 0, 0]] * 400)

    def test_rows_of_none_to_40_numbers_are_read_over(self):
        for many in range(41):
            for others in range(41):
                call = [2, 5, 30, many, *[0] * many, others, *[0] * others]
                self.assertEqual(run(call, clock(1), clock(0)), [[-2], [0, 0, 0, 0, 0, 0], [-13]])


class LaterCallsTest(unittest.TestCase):
    """The list has the same form for all calls, so those not written yet are read over rightly."""

    LATER = (
        [9, 0, 0, 30, 2, 1002, 0, 7, *leg()], [10, 1002, 0, 1, 0], [11, 1], [12, 1002], [13], [14, 3],
        [15, 3, 12, 10], [16, 1002], [17],
    )

    def test_the_calls_behind_them_are_found(self):
        for call in self.LATER:
            told = run(stock(100, 109), call, issue([leg()]), call, void(1002))
            self.assertEqual((told[0], told[2], told[4]), ([0, 10], [0, 1002, 107], [0, 107, 0]))

    def test_they_are_refused_for_now(self):
        for call in self.LATER:
            self.assertEqual(run(call), [[-1]])

    def test_out_of_their_ranges(self):
        wrong = (
            [9, -1, 0, 30, 2, 1002, 0, 7, *leg()], [9, 0, 3, 30, 2, 1002, 0, 7, *leg()],
            [9, 0, 0, 36525, 2, 1002, 0, 7, *leg()], [9, 0, 0, 30, 0, 7, *leg()],
            [9, 0, 0, 30, 3, 1002, 0, 1002, 7, *leg()], [9, 0, 0, 30, 18, *[1002, 0] * 9, 7, *leg()],
            [9, 0, 0, 30, 2, 9, 0, 7, *leg()], [9, 0, 0, 30, 2, 1002, 4, 7, *leg()],
            [9, 0, 0, 30, 2, 1002, 0, 6, *leg()[:6]], [9, 0, 0, 30, 2, 1002, 0, 7, *leg(num=0)],
            [10, 9, 0, 1, 0], [10, 1002, 1000000001, 1, 0], [10, 1002, 0, 0], [10, 1002, 0, 5, 0, 1, 2, 3, 0],
            [10, 1002, 0, 1, 4], [11, 0], [11, 65], [12, 9], [14, 676], [15, 3, 12, -1], [16, 10000000000],
        )
        for call in wrong:
            self.assertEqual(run(call, clock(1)), [[-2], [0, 0, 0, 0, 0, 0]])


class ManyLinesTest(HouseCase):
    """Whatever comes, refusals change nothing and the money adds up (the case looks at each call)."""

    def any_call(self, chance):
        day = self.house.today
        number = number_of(chance.randint(100, 105))
        n = chance.randint(0, 2)
        flight = (chance.randint(1, 2), chance.randint(1, 2), day + chance.randint(0, 3))
        legs = [leg(chance.randint(1, 2), chance.randint(1, 2), day + chance.randint(0, 3), k, k + 1,
                    chance.randint(0, 99), chance.randint(0, 9)) for k in range(chance.randint(1, 4))]
        credit_ids = [chance.randint(1, 3) for k in range(chance.randint(0, 2))]
        return chance.choice((
            clock(day + chance.randint(-1, 1)), void(number), depart(*flight), cancel(*flight),
            issue(legs, chance.randint(1, 2), day + 4, credit_ids),
            revalidate(number, n, flight[1], flight[2]), suspend(number, n, chance.randint(0, 1)),
            *[use(verb, number, n, flight[0]) for verb in (1, 1, 2, 3, 3, 4, 5, 5, 6)],
        ))

    def test_many_lines(self):
        seen = set()
        for seed in range(60):
            chance = random.Random(seed)
            self.begin_anew()
            self.does(stock(100, 150), 51)
            if seed % 2:
                for k in range(3):
                    self.add_credit(chance.randint(1, 2), chance.randint(0, 200), chance.randint(2, 8))
            for k in range(150):
                call = self.any_call(chance)
                seen.add((call[0], self.ask(call)[0]))
            self.compare_with_answers()
        for place in (0, 2, 3, 4, 5, 6, 7, 8):
            self.assertIn((place, 0), seen)
        for refusal in (-4, -5, -9, -10, -11, -12):
            self.assertIn((4, refusal), seen)
