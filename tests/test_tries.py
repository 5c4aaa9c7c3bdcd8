"""[9.1] and [9.2]: plans of tries, and callers."""

import inspect
import itertools
import unittest

from tellroads.errors import NoNumber
from tellroads.tries import Caller, moments, tries_within, wait_of, waits

PLANS = [plan for plan in itertools.product((1, 2, 3, 5), (1, 2, 3), (1, 2, 5, 6, 7, 40), (1, 2, 3, 6))
         if plan[2] >= plan[0]]


def plain_wait(plan, number):
    first, times, most, many = plan
    return min(first * times ** number, most)


def all_told(caller):
    return (caller.tries_at(), caller.bad_ones())


class Waiting(unittest.TestCase):
    def test_beside_the_plain_reckoning(self):
        for plan in PLANS:
            for number in range(9):
                self.assertEqual(wait_of(plan, number), plain_wait(plan, number), (plan, number))

    def test_the_same_each_time_with_times_1(self):
        self.assertEqual([wait_of((3, 1, 9, 5), number) for number in range(5)], [3] * 5)

    def test_most_equal_to_first(self):
        self.assertEqual([wait_of((3, 2, 3, 5), number) for number in range(4)], [3] * 4)

    def test_most_just_reached(self):
        self.assertEqual([wait_of((3, 2, 12, 5), number) for number in range(5)], [3, 6, 12, 12, 12])

    def test_most_passed(self):
        self.assertEqual([wait_of((3, 2, 11, 5), number) for number in range(5)], [3, 6, 11, 11, 11])
        self.assertEqual([wait_of((3, 2, 13, 5), number) for number in range(5)], [3, 6, 12, 13, 13])

    def test_great_numbers(self):
        great = 10 ** 15
        self.assertEqual(wait_of((3, 2, 1000, 5), great), 1000)
        self.assertEqual(wait_of((3, 1, 1000, 5), great), 3)
        self.assertEqual(wait_of((1000, 7, 1000, 5), great), 1000)
        self.assertEqual(wait_of((1, 2, 10 ** 30, 5), great), 10 ** 30)
        self.assertEqual(wait_of((1, 2, 10 ** 30, 5), 60), 2 ** 60)

    def test_more_numbers_than_many_tells(self):
        self.assertEqual(wait_of((1, 2, 100, 1), 5), 32)

    def test_bounds_somewhat_passed_go_by_the_words(self):
        self.assertEqual([wait_of((3, 0, 9, 5), number) for number in (0, 1, 2, 10 ** 15)], [3, 0, 0, 0])
        self.assertEqual([wait_of((9, 0, 9, 5), number) for number in (0, 1, 2)], [9, 0, 0])
        self.assertEqual([wait_of((0, 2, 9, 5), number) for number in (0, 1, 10 ** 15)], [0, 0, 0])
        self.assertEqual([wait_of((5, 2, 3, 5), number) for number in (0, 1, 10 ** 15)], [3, 3, 3])

    def test_waits(self):
        self.assertEqual(waits((3, 2, 11, 1)), [])
        self.assertEqual(waits((3, 2, 11, 2)), [3])
        self.assertEqual(waits((3, 2, 11, 5)), [3, 6, 11, 11])
        for plan in PLANS:
            self.assertEqual(waits(plan), [plain_wait(plan, number) for number in range(plan[3] - 1)])


class Moments(unittest.TestCase):
    def test_one_alone(self):
        for start in (0, 1, 17):
            self.assertEqual(moments((3, 2, 11, 1), start), [start])

    def test_several(self):
        self.assertEqual(moments((3, 2, 11, 5), 0), [0, 3, 9, 20, 31])
        self.assertEqual(moments((3, 2, 11, 5), 100), [100, 103, 109, 120, 131])
        self.assertEqual(moments((1, 1, 1, 3), 7), [7, 8, 9])

    def test_each_behind_the_one_ahead_by_the_waits(self):
        for plan, start in itertools.product(PLANS, (0, 4)):
            found = moments(plan, start)
            self.assertEqual(len(found), plan[3])
            self.assertEqual(found[0], start)
            self.assertEqual([later - sooner for sooner, later in zip(found, found[1:])], waits(plan))

    def test_tries_within(self):
        plan = (3, 2, 11, 5)
        times = (0, 1, 2, 3, 4, 8, 9, 10, 19, 20, 30, 31, 32, 1000)
        self.assertEqual([tries_within(plan, time) for time in times], [1, 1, 1, 2, 2, 2, 3, 3, 3, 4, 4, 5, 5, 5])

    def test_tries_within_beside_the_plain_reckoning(self):
        for plan, time in itertools.product(PLANS, range(60)):
            self.assertEqual(tries_within(plan, time), sum(moment <= time for moment in moments(plan, 0)))

    def test_tries_within_with_many_1(self):
        for time in (0, 1, 1000):
            self.assertEqual(tries_within((3, 2, 11, 1), time), 1)

    def test_tries_within_a_time_somewhat_below_0(self):
        self.assertEqual(tries_within((3, 2, 11, 5), -1), 0)


class Calling(unittest.TestCase):
    def test_at_first(self):
        for now in (0, 5):
            self.assertEqual(all_told(Caller((3, 2, 11, 4), now)), (now, 0))

    def test_failed_till_it_tries_no_more(self):
        caller = Caller((3, 2, 11, 4), 10)
        self.assertEqual(caller.failed(10), 13)
        self.assertEqual(all_told(caller), (13, 1))
        self.assertEqual(caller.failed(13), 19)
        self.assertEqual(all_told(caller), (19, 2))
        self.assertEqual(caller.failed(19), 30)
        self.assertEqual(all_told(caller), (30, 3))
        self.assertIsNone(caller.failed(30))
        self.assertEqual(all_told(caller), (None, 4))

    def test_tried_at_just_the_moments(self):
        for plan, start in itertools.product(PLANS, (0, 4)):
            caller = Caller(plan, start)
            tried = []
            while caller.tries_at() is not None:
                tried.append(caller.tries_at())
                self.assertEqual(caller.failed(tried[-1]), caller.tries_at())
                self.assertEqual(caller.bad_ones(), len(tried))
            self.assertEqual(tried, moments(plan, start))

    def test_at_a_later_moment(self):
        caller = Caller((3, 2, 11, 4), 10)
        self.assertEqual(caller.failed(12), 15)
        self.assertEqual(caller.failed(100), 106)
        self.assertIsNone(caller.went_well(200))
        self.assertEqual(all_told(caller), (200, 0))
        self.assertEqual(caller.failed(201), 204)

    def test_went_well_on_the_way(self):
        caller = Caller((3, 2, 11, 3), 0)
        caller.failed(0)
        caller.failed(3)
        self.assertIsNone(caller.went_well(9))
        self.assertEqual(all_told(caller), (9, 0))
        self.assertEqual(caller.failed(9), 12)
        self.assertEqual(caller.failed(12), 18)
        self.assertIsNone(caller.failed(18))
        self.assertEqual(all_told(caller), (None, 3))

    def test_went_well_at_first_and_again(self):
        caller = Caller((3, 2, 11, 3), 5)
        for now in (5, 5, 6):
            self.assertIsNone(caller.went_well(now))
            self.assertEqual(all_told(caller), (now, 0))

    def test_many_1(self):
        caller = Caller((3, 2, 11, 1), 5)
        self.assertIsNone(caller.went_well(6))
        self.assertEqual(all_told(caller), (6, 0))
        self.assertIsNone(caller.failed(6))
        self.assertEqual(all_told(caller), (None, 1))

    def test_begin_behind_all(self):
        caller = Caller((3, 2, 11, 2), 5)
        caller.failed(5)
        caller.failed(8)
        self.assertIsNone(caller.begin(20))
        self.assertEqual(all_told(caller), (20, 0))
        self.assertEqual(caller.failed(20), 23)
        self.assertIsNone(caller.failed(23))

    def test_begin_on_the_way(self):
        for now in (0, 3, 5, 8, 9):
            caller = Caller((3, 2, 11, 3), 5)
            caller.failed(5)
            self.assertIsNone(caller.begin(now))
            self.assertEqual(all_told(caller), (now, 0))
            self.assertEqual(caller.failed(now), now + 3)

    def test_a_many_of_0_tries_once(self):
        caller = Caller((3, 2, 11, 0), 5)
        self.assertEqual(all_told(caller), (5, 0))
        self.assertIsNone(caller.failed(5))


class CallingRefused(unittest.TestCase):
    def refuse(self, caller, now):
        ahead = all_told(caller)
        for one in (caller.failed, caller.went_well):
            with self.assertRaises(NoNumber) as caught:
                one(now)
            self.assertIs(type(caught.exception), NoNumber)
            self.assertEqual(all_told(caller), ahead)

    def test_too_early(self):
        caller = Caller((3, 2, 11, 4), 10)
        for now in (0, 9):
            self.refuse(caller, now)
        caller.failed(10)
        for now in (0, 9, 10, 12):
            self.refuse(caller, now)
        self.assertEqual(caller.failed(13), 19)
        for now in (13, 18):
            self.refuse(caller, now)
        caller.went_well(19)
        self.refuse(caller, 18)

    def test_where_it_tries_no_more(self):
        for plan in ((3, 2, 11, 1), (3, 2, 11, 2)):
            caller = Caller(plan, 10)
            while caller.tries_at() is not None:
                caller.failed(caller.tries_at())
            for now in (0, 10, 13, 14, 1000):
                self.refuse(caller, now)
            caller.begin(0)
            self.assertEqual(all_told(caller), (0, 0))

    def test_too_early_behind_begin(self):
        caller = Caller((3, 2, 11, 2), 0)
        caller.begin(7)
        self.refuse(caller, 6)


class EveryShortHistory(unittest.TestCase):
    """Beside a plain model: (when it tries, how many failed)."""

    def model_step(self, model, plan, name, now):
        when, bad = model
        if name == "begin":
            return (now, 0), None
        if when is None or now < when:
            return model, NoNumber
        if name == "went_well":
            return (now, 0), None
        when = now + plain_wait(plan, bad) if bad + 1 < plan[3] else None
        return (when, bad + 1), when

    def test_each(self):
        for plan in ((1, 2, 3, 3), (2, 1, 2, 2), (1, 3, 4, 1)):
            for history in itertools.product(itertools.product(("failed", "went_well", "begin"), (0, 1, 3)), repeat=4):
                caller = Caller(plan, 0)
                model = (0, 0)
                for name, now in history:
                    model, expected = self.model_step(model, plan, name, now)
                    try:
                        told = getattr(caller, name)(now)
                    except NoNumber:
                        told = NoNumber
                    self.assertEqual(told, expected)
                    self.assertEqual(all_told(caller), model)


class Interface(unittest.TestCase):
    def test_names_and_arguments(self):
        caller = Caller((1, 1, 1, 1), 0)
        self.assertEqual(len(inspect.signature(Caller).parameters), 2)
        for one, many in ((wait_of, 2), (waits, 1), (moments, 2), (tries_within, 2), (caller.failed, 1),
                          (caller.went_well, 1), (caller.begin, 1), (caller.tries_at, 0), (caller.bad_ones, 0)):
            self.assertEqual(len(inspect.signature(one).parameters), many)

    def test_kinds(self):
        self.assertIs(type(waits((1, 1, 1, 1))), list)
        self.assertIs(type(moments((1, 1, 1, 1), 0)), list)
        self.assertIs(type(tries_within((1, 1, 1, 1), 0)), int)
        self.assertIs(type(wait_of((1, 1, 1, 1), 0)), int)


if __name__ == "__main__":
    unittest.main()
