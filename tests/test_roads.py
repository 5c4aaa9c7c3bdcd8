"""[4.1]: roads."""

import inspect
import itertools
import unittest

from tellroads.roads import Road

FIVE = [(1, "a", "x"), (2, "b", ""), (3, "a", "y"), (4, "c", "z"), (5, "a", "x")]
WAYS = ("old", "new", "cut")
SIZES = (1, 2, 3, 4)


def road_of(size, way, row):
    road = Road(size, way)
    for message in row:
        road.put(message)
    return road


def all_told(road):
    return (road.waiting(), road.left_out(), road.is_cut())


class Room(unittest.TestCase):
    def test_at_first_nothing_waits(self):
        for size, way in itertools.product(SIZES, WAYS):
            road = Road(size, way)
            self.assertEqual(all_told(road), ([], [], False))
            self.assertEqual(road.take(3), [])

    def test_up_to_just_full_all_wait(self):
        for size, way in itertools.product(SIZES, WAYS):
            road = Road(size, way)
            for many in range(1, size + 1):
                self.assertIs(road.put(FIVE[many - 1]), True)
                self.assertEqual(all_told(road), (FIVE[:many], [], False))

    def test_one_more_by_the_way_old(self):
        for size in SIZES:
            road = road_of(size, "old", FIVE[:size])
            self.assertIs(road.put(FIVE[size]), True)
            self.assertEqual(all_told(road), (FIVE[1:size + 1], [1], False))

    def test_one_more_by_the_way_new(self):
        for size in SIZES:
            road = road_of(size, "new", FIVE[:size])
            self.assertIs(road.put(FIVE[size]), False)
            self.assertEqual(all_told(road), (FIVE[:size], [size + 1], False))

    def test_one_more_by_the_way_cut(self):
        for size in SIZES:
            road = road_of(size, "cut", FIVE[:size])
            self.assertIs(road.put(FIVE[size]), False)
            self.assertEqual(all_told(road), ([], list(range(1, size + 2)), True))

    def test_several_more(self):
        self.assertEqual(all_told(road_of(2, "old", FIVE)), (FIVE[3:], [1, 2, 3], False))
        self.assertEqual(all_told(road_of(2, "new", FIVE)), (FIVE[:2], [3, 4, 5], False))
        self.assertEqual(all_told(road_of(2, "cut", FIVE)), ([], [1, 2, 3, 4, 5], True))

    def test_room_that_is_taken_again(self):
        for way in WAYS:
            road = road_of(2, way, FIVE[:2])
            self.assertEqual(road.take(1), FIVE[:1])
            self.assertIs(road.put(FIVE[2]), True)
            self.assertEqual(all_told(road), (FIVE[1:3], [], False))

    def test_numbers_say_nothing_of_the_order(self):
        road = road_of(2, "old", [FIVE[4], FIVE[0], FIVE[4], FIVE[2]])
        self.assertEqual(all_told(road), ([FIVE[4], FIVE[2]], [5, 1], False))

    def test_a_size_somewhat_below_1_is_not_refused(self):
        for size in (0, -1):
            road = Road(size, "old")
            self.assertIs(road.put(FIVE[0]), True)
            self.assertIs(road.put(FIVE[1]), True)
            self.assertEqual(all_told(road), (FIVE[1:2], [1], False))
            road = Road(size, "new")
            self.assertIs(road.put(FIVE[0]), False)
            self.assertEqual(all_told(road), ([], [1], False))
            road = Road(size, "cut")
            self.assertIs(road.put(FIVE[0]), False)
            self.assertEqual(all_told(road), ([], [1], True))


class Taking(unittest.TestCase):
    def test_as_many_as_are_asked_for_or_all(self):
        for way, many in itertools.product(WAYS, range(8)):
            road = road_of(5, way, FIVE)
            self.assertEqual(road.take(many), FIVE[:many])
            self.assertEqual(all_told(road), (FIVE[many:], [], False))

    def test_bit_by_bit(self):
        road = road_of(5, "cut", FIVE)
        self.assertEqual([road.take(2), road.take(0), road.take(2), road.take(2), road.take(2)],
                         [FIVE[:2], [], FIVE[2:4], FIVE[4:], []])

    def test_a_number_somewhat_below_0_takes_none(self):
        road = road_of(5, "new", FIVE)
        self.assertEqual(road.take(-1), [])
        self.assertEqual(road.waiting(), FIVE)

    def test_a_list_is_told(self):
        self.assertIs(type(road_of(5, "old", FIVE).take(2)), list)


class CutAndMended(unittest.TestCase):
    def test_on_a_cut_road_each_one_is_left_out(self):
        road = road_of(1, "cut", FIVE[:2])
        for many in (3, 4, 5):
            self.assertIs(road.put(FIVE[many - 1]), False)
            self.assertEqual(all_told(road), ([], list(range(1, many + 1)), True))

    def test_nothing_is_taken_from_a_cut_road(self):
        road = road_of(2, "cut", FIVE[:3])
        self.assertEqual(road.take(0), [])
        self.assertEqual(road.take(2), [])
        self.assertEqual(all_told(road), ([], [1, 2, 3], True))

    def test_mended(self):
        road = road_of(2, "cut", FIVE[:3])
        self.assertIsNone(road.mend())
        self.assertEqual(all_told(road), ([], [1, 2, 3], False))
        self.assertIs(road.put(FIVE[3]), True)
        self.assertIs(road.put(FIVE[4]), True)
        self.assertEqual(all_told(road), (FIVE[3:], [1, 2, 3], False))

    def test_left_out_over_several_cuts_and_mendings(self):
        road = Road(2, "cut")
        row = [(number, "a", "") for number in range(1, 13)]
        answers = []
        for message in row:
            answers.append(road.put(message))
            if message[0] in (4, 9):
                road.mend()
            if message[0] == 6:
                self.assertEqual(road.take(1), [row[4]])
        self.assertEqual(answers, [True, True, False, False, True, True, True, False, False, True, True, False])
        self.assertEqual(road.left_out(), [1, 2, 3, 4, 6, 7, 8, 9, 10, 11, 12])
        self.assertEqual(all_told(road)[::2], ([], True))

    def test_mending_a_road_that_is_not_cut(self):
        for way in WAYS:
            for row in ([], FIVE[:1], FIVE[:2]):
                road = road_of(2, way, row)
                self.assertIsNone(road.mend())
                self.assertEqual(all_told(road), (row, [], False))
        road = road_of(2, "new", FIVE)
        self.assertIsNone(road.mend())
        self.assertEqual(all_told(road), (FIVE[:2], [3, 4, 5], False))

    def test_only_the_way_cut_cuts(self):
        for size, way in itertools.product(SIZES, ("old", "new")):
            self.assertIs(road_of(size, way, FIVE).is_cut(), False)
        self.assertIs(road_of(4, "cut", FIVE).is_cut(), True)


class Interface(unittest.TestCase):
    def test_names_and_arguments(self):
        road = Road(1, "old")
        self.assertEqual(len(inspect.signature(Road).parameters), 2)
        for name, many in (("put", 1), ("take", 1), ("waiting", 0), ("left_out", 0), ("is_cut", 0), ("mend", 0)):
            with self.subTest(name):
                self.assertEqual(len(inspect.signature(getattr(road, name)).parameters), many)


if __name__ == "__main__":
    unittest.main()
