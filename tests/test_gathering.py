"""[11.1]: lists of messages put together."""

import inspect
import itertools
import unittest

from tellroads.errors import Other
from tellroads.gathering import common, lacking, put_together

FIVE = [(1, "a", "x"), (2, "b", ""), (3, "a", "y"), (4, "c", "z"), (9, "a", "x")]
# Each differs from the one of its number in one part alone.
UNLIKE = [(1, "b", "x"), (2, "b", "x"), (3, "a", ""), (9, "q", "x")]


def picked(numbers):
    return [message for message in FIVE if message[0] in numbers]


class Gathered(unittest.TestCase):
    def check(self, rows, together, lacked, shared):
        self.assertEqual(put_together(rows), together)
        self.assertEqual(lacking(rows), lacked)
        self.assertEqual(common(rows), shared)

    def test_no_list(self):
        self.check([], [], [], [])

    def test_one_list(self):
        self.check([FIVE], FIVE, [[]], FIVE)
        self.check([FIVE[:1]], FIVE[:1], [[]], FIVE[:1])

    def test_empty_lists(self):
        self.check([[]], [], [[]], [])
        self.check([[], [], []], [], [[], [], []], [])
        self.check([[], FIVE], FIVE, [[1, 2, 3, 4, 9], []], [])
        self.check([FIVE, [], FIVE], FIVE, [[], [1, 2, 3, 4, 9], []], [])

    def test_lists_that_are_alike(self):
        self.check([FIVE, FIVE], FIVE, [[], []], FIVE)
        self.check([FIVE, list(FIVE), FIVE], FIVE, [[], [], []], FIVE)

    def test_lists_that_share_some(self):
        self.check([picked((1, 3, 4)), picked((2, 3, 9))], FIVE, [[2, 9], [1, 4]], picked((3,)))
        self.check([picked((1, 2)), picked((2, 3)), picked((1, 3))], picked((1, 2, 3)), [[3], [1], [2]], [])
        self.check([picked((1, 2, 9)), FIVE, picked((2, 9))], FIVE, [[3, 4], [], [1, 3, 4]], picked((2, 9)))

    def test_lists_that_share_none(self):
        self.check([picked((4, 9)), picked((1, 3))], picked((1, 3, 4, 9)), [[1, 3], [4, 9]], [])
        self.check([picked((9,)), picked((1,)), picked((2, 4))], picked((1, 2, 4, 9)),
                   [[1, 2, 4], [2, 4, 9], [1, 9]], [])

    def test_every_three_lists(self):
        choices = [numbers for many in range(4) for numbers in itertools.combinations((1, 2, 9), many)]
        for chosen in itertools.product(choices, repeat=3):
            sets = [set(numbers) for numbers in chosen]
            whole = set().union(*sets)
            self.check([picked(numbers) for numbers in chosen], picked(whole),
                       [sorted(whole - one) for one in sets], picked(sets[0] & sets[1] & sets[2]))

    def test_kinds(self):
        for rows in ([], [[]], [FIVE, []]):
            for one in (put_together, lacking, common):
                self.assertIs(type(one(rows)), list)
            for numbers in lacking(rows):
                self.assertIs(type(numbers), list)

    def test_long_lists(self):
        row = [(number, "a", "") for number in range(1, 2001)]
        self.check([row[::2], row[1::2], row], row, [list(range(2, 2001, 2)), list(range(1, 2000, 2)), []], [])


class Refused(unittest.TestCase):
    def refuse(self, rows):
        for one in (put_together, lacking, common):
            with self.assertRaises(Other) as caught:
                one(rows)
            self.assertIs(type(caught.exception), Other)

    def test_unlike_messages_of_one_number(self):
        for other in UNLIKE:
            self.refuse([FIVE, [other]])
            self.refuse([[other], FIVE])

    def test_wherever_the_lists_stand(self):
        for other in UNLIKE:
            for rows in itertools.permutations([FIVE, [other], [], FIVE[:1]]):
                self.refuse(list(rows))
            self.refuse([[], [], picked((1, 2, 3, 9)), [], [other]])

    def test_wherever_the_messages_stand(self):
        for other in UNLIKE:
            row = sorted([message for message in FIVE if message[0] != other[0]] + [other])
            self.refuse([row, FIVE])
            self.refuse([FIVE, FIVE, row])

    def test_where_other_lists_have_none_of_it(self):
        for other in UNLIKE:
            self.refuse([[], picked((other[0],)), [], [other]])

    def test_messages_of_unlike_numbers_are_not_refused(self):
        self.assertEqual(put_together([[(1, "a", "x")], [(2, "a", "x")]]), [(1, "a", "x"), (2, "a", "x")])


class Interface(unittest.TestCase):
    def test_names_and_arguments(self):
        for one in (put_together, lacking, common):
            self.assertEqual(len(inspect.signature(one).parameters), 1)


if __name__ == "__main__":
    unittest.main()
