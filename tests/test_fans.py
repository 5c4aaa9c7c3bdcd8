"""[5.1] and [5.2]: fans."""

import inspect
import unittest

from tellroads.errors import NoRoad, Taken, TellError
from tellroads.fans import Fan

FIVE = [(1, "a", "x"), (2, "b", ""), (3, "a", "y"), (4, "c", "z"), (5, "a", "x")]


def tell_all(fan, row):
    return [fan.tell(message[1], message[2]) for message in row]


def fan_of(keep, roads, row=()):
    fan = Fan(keep)
    for name, size, way in roads:
        fan.lay(name, size, way)
    tell_all(fan, row)
    return fan


def all_told(fan):
    told = [fan.names(), fan.slowest()]
    for name in fan.names():
        told.append((fan.heard(name), fan.lost(name), fan.waiting(name), fan.lag(name)))
    return told


class Refusals(unittest.TestCase):
    def refuses(self, refusal, call, *values):
        with self.subTest(str(values)):
            with self.assertRaises(TellError) as caught:
                call(*values)
            self.assertIs(type(caught.exception), refusal)


class Laying(Refusals):
    def test_at_first_there_are_no_roads(self):
        fan = Fan(3)
        self.assertEqual(fan.names(), [])
        self.assertEqual(fan.slowest(), [])
        self.assertEqual(tell_all(fan, FIVE), [1, 2, 3, 4, 5])

    def test_names_rise(self):
        fan = Fan(3)
        for name in ("q", "p", "pq", "", "Z", "10", "9"):
            self.assertIsNone(fan.lay(name, 1, "old"))
        self.assertEqual(fan.names(), ["", "10", "9", "Z", "p", "pq", "q"])

    def test_a_new_road_has_nothing(self):
        fan = fan_of(3, [("p", 2, "old")])
        self.assertEqual(all_told(fan), [["p"], ["p"], ([], [], [], 0)])

    def test_a_name_laid_twice(self):
        fan = fan_of(3, [("p", 1, "cut"), ("q", 2, "old")], FIVE[:2])
        fan.carry("q", 1)
        ahead = all_told(fan)
        for name, size, way in (("p", 1, "cut"), ("p", 9, "new"), ("q", 2, "old")):
            self.refuses(Taken, fan.lay, name, size, way)
            self.assertEqual(all_told(fan), ahead)

    def test_closed(self):
        fan = fan_of(3, [("p", 1, "old"), ("q", 2, "old"), ("r", 3, "old")], FIVE[:1])
        self.assertIsNone(fan.close("q"))
        self.assertEqual(fan.names(), ["p", "r"])
        self.refuses(NoRoad, fan.heard, "q")
        self.refuses(NoRoad, fan.close, "q")
        tell_all(fan, FIVE[1:2])
        self.assertEqual(fan.waiting("r"), FIVE[:2])

    def test_closed_and_laid_again(self):
        fan = fan_of(9, [("p", 3, "old")], FIVE[:3])
        fan.carry("p", 2)
        fan.close("p")
        fan.lay("p", 1, "new")
        self.assertEqual(all_told(fan), [["p"], ["p"], ([], [], [], 3)])
        tell_all(fan, FIVE[3:])
        self.assertEqual(fan.waiting("p"), FIVE[3:4])
        self.assertEqual(fan.catch_up("p"), (FIVE, 0))

    def test_names_that_no_road_has(self):
        for roads in ([], [("p", 1, "cut"), ("q", 2, "old")]):
            fan = fan_of(2, roads, FIVE[:3])
            ahead = all_told(fan)
            for name in ("r", "", "P", "pq", "p "):
                for call in (fan.close, fan.catch_up, fan.heard, fan.lost, fan.waiting, fan.lag):
                    self.refuses(NoRoad, call, name)
                for many in (0, 1, 9):
                    self.refuses(NoRoad, fan.carry, name, many)
            self.assertEqual(all_told(fan), ahead)
            self.assertEqual(fan.tell("a", ""), 4)


class Telling(unittest.TestCase):
    def test_each_road_has_each_message(self):
        fan = fan_of(0, [("p", 9, "old"), ("q", 9, "new"), ("r", 9, "cut")])
        self.assertEqual(tell_all(fan, FIVE), [1, 2, 3, 4, 5])
        for name in fan.names():
            self.assertEqual(fan.waiting(name), FIVE)
            self.assertEqual(fan.heard(name), [])

    def test_each_road_in_its_own_way(self):
        fan = fan_of(9, [("p", 2, "old"), ("q", 2, "new"), ("r", 2, "cut"), ("s", 4, "cut")], FIVE[:4])
        self.assertEqual([fan.waiting(name) for name in fan.names()], [FIVE[2:4], FIVE[:2], [], FIVE[:4]])

    def test_each_road_to_a_hearer_of_its_own(self):
        fan = fan_of(9, [("p", 9, "old"), ("q", 9, "old")], FIVE)
        self.assertEqual(fan.carry("p", 3), FIVE[:3])
        self.assertEqual((fan.heard("p"), fan.waiting("p")), (FIVE[:3], FIVE[3:]))
        self.assertEqual((fan.heard("q"), fan.waiting("q")), ([], FIVE))

    def test_a_road_laid_behind_some_tellings(self):
        fan = fan_of(9, [("p", 9, "old")], FIVE[:3])
        fan.lay("q", 9, "old")
        tell_all(fan, FIVE[3:])
        self.assertEqual(fan.waiting("q"), FIVE[3:])
        self.assertEqual(fan.lag("q"), 5)
        self.assertEqual(fan.carry("q", 9), [])
        self.assertEqual(fan.lag("q"), 5)
        self.assertEqual(fan.catch_up("q"), (FIVE, 0))

    def test_two_fans_share_nothing(self):
        fan = fan_of(9, [("p", 9, "old")], FIVE)
        other = Fan(9)
        self.assertEqual(other.names(), [])
        other.lay("p", 1, "new")
        self.assertEqual(other.tell("a", ""), 1)
        self.assertEqual(fan.waiting("p"), FIVE)


class Carrying(unittest.TestCase):
    def test_so_many(self):
        for many in range(8):
            fan = fan_of(0, [("p", 9, "old")], FIVE)
            self.assertEqual(fan.carry("p", many), FIVE[:many])
            self.assertEqual(fan.heard("p"), FIVE[:many])
            self.assertEqual(fan.waiting("p"), FIVE[many:])
            self.assertEqual(fan.lost("p"), [])

    def test_messages_that_leave_a_gap(self):
        fan = fan_of(3, [("p", 2, "old")], FIVE[:1])
        self.assertEqual(fan.carry("p", 1), FIVE[:1])
        tell_all(fan, FIVE[1:])
        self.assertEqual(fan.waiting("p"), FIVE[3:])
        self.assertEqual(fan.carry("p", 9), [])
        self.assertEqual((fan.heard("p"), fan.waiting("p"), fan.lag("p")), (FIVE[:1], [], 4))
        self.assertEqual(fan.catch_up("p"), (FIVE[2:], 1))
        self.assertEqual(fan.lost("p"), [2])

    def test_a_gap_that_is_caught_up_from_what_the_road_brought(self):
        fan = fan_of(0, [("p", 2, "old")], FIVE)
        fan.carry("p", 9)
        self.assertEqual(fan.catch_up("p"), (FIVE[3:], 3))
        self.assertEqual(fan.lost("p"), [1, 2, 3])

    def test_what_was_heard_already_is_heard_no_more(self):
        fan = fan_of(9, [("p", 9, "old")], FIVE)
        self.assertEqual(fan.catch_up("p"), (FIVE, 0))
        self.assertEqual(fan.waiting("p"), FIVE)
        self.assertEqual(fan.carry("p", 9), [])
        self.assertEqual((fan.heard("p"), fan.waiting("p"), fan.lag("p")), (FIVE, [], 0))

    def test_what_was_lost_and_comes_late(self):
        fan = fan_of(0, [("p", 9, "old")], FIVE)
        self.assertEqual(fan.catch_up("p"), ([], 5))
        self.assertEqual(fan.carry("p", 9), [])
        self.assertEqual((fan.heard("p"), fan.lost("p"), fan.waiting("p")), ([], [1, 2, 3, 4, 5], []))


class CatchingUp(unittest.TestCase):
    def test_a_road_that_is_cut(self):
        fan = fan_of(9, [("p", 2, "cut"), ("q", 2, "cut")], FIVE[:4])
        self.assertEqual((fan.waiting("p"), fan.carry("p", 9)), ([], []))
        self.assertEqual(fan.catch_up("p"), (FIVE[:4], 0))
        tell_all(fan, FIVE[4:])
        self.assertEqual((fan.waiting("p"), fan.waiting("q")), (FIVE[4:], []))
        self.assertEqual(fan.carry("p", 9), FIVE[4:])
        self.assertEqual(fan.heard("p"), FIVE)

    def test_a_cut_road_of_a_teller_that_keeps_some(self):
        fan = fan_of(2, [("p", 2, "cut")], FIVE[:2])
        fan.carry("p", 1)
        tell_all(fan, FIVE[2:])
        self.assertEqual(fan.catch_up("p"), (FIVE[3:], 2))
        self.assertEqual((fan.heard("p"), fan.lost("p"), fan.lag("p")), ([FIVE[0]] + FIVE[3:], [2, 3], 0))

    def test_by_keep(self):
        for keep in range(7):
            fan = fan_of(keep, [("p", 1, "cut")], FIVE)
            many = min(keep, 5)
            self.assertEqual(fan.catch_up("p"), (FIVE[5 - many:], 5 - many))
            self.assertEqual(fan.catch_up("p"), ([], 0))

    def test_with_nothing_told(self):
        fan = fan_of(3, [("p", 1, "cut")])
        self.assertEqual(fan.catch_up("p"), ([], 0))

    def test_the_others_stay_as_they_are(self):
        fan = fan_of(2, [("p", 1, "cut"), ("q", 9, "old")], FIVE)
        fan.carry("q", 1)
        fan.catch_up("p")
        self.assertEqual((fan.heard("q"), fan.lost("q"), fan.waiting("q"), fan.lag("q")), (FIVE[:1], [], FIVE[1:], 4))


class Lag(unittest.TestCase):
    def test_behind_nothing(self):
        fan = fan_of(3, [("p", 9, "old")])
        self.assertEqual(fan.lag("p"), 0)
        tell_all(fan, FIVE)
        fan.carry("p", 9)
        self.assertEqual(fan.lag("p"), 0)

    def test_behind_some(self):
        fan = fan_of(3, [("p", 9, "old")])
        for many in range(1, 6):
            tell_all(fan, FIVE[many - 1:many])
            self.assertEqual(fan.lag("p"), many)
        for many in (4, 3, 2, 1, 0):
            fan.carry("p", 1)
            self.assertEqual(fan.lag("p"), many)

    def test_left_out_ones_count(self):
        fan = fan_of(3, [("p", 1, "new"), ("q", 1, "old"), ("r", 1, "cut")], FIVE)
        for name in fan.names():
            fan.carry(name, 9)
        self.assertEqual([fan.lag(name) for name in fan.names()], [4, 5, 5])

    def test_lost_ones_do_not_count(self):
        fan = fan_of(1, [("p", 1, "new")], FIVE)
        fan.catch_up("p")
        self.assertEqual(fan.lag("p"), 0)
        fan.tell("a", "")
        self.assertEqual(fan.lag("p"), 1)


class Slowest(unittest.TestCase):
    def test_no_road(self):
        fan = fan_of(3, [], FIVE)
        self.assertEqual(fan.slowest(), [])
        fan.lay("p", 1, "old")
        fan.close("p")
        self.assertEqual(fan.slowest(), [])

    def test_one_road(self):
        fan = fan_of(3, [("p", 9, "old")])
        self.assertEqual(fan.slowest(), ["p"])
        tell_all(fan, FIVE)
        self.assertEqual(fan.slowest(), ["p"])

    def test_several(self):
        fan = fan_of(3, [("r", 9, "old"), ("q", 9, "old"), ("p", 9, "old")])
        self.assertEqual(fan.slowest(), ["p", "q", "r"])
        tell_all(fan, FIVE)
        self.assertEqual(fan.slowest(), ["p", "q", "r"])
        fan.carry("q", 1)
        self.assertEqual(fan.slowest(), ["p", "r"])
        fan.carry("p", 2)
        self.assertEqual(fan.slowest(), ["r"])
        fan.carry("r", 5)
        self.assertEqual(fan.slowest(), ["q"])
        fan.carry("q", 1)
        self.assertEqual(fan.slowest(), ["p", "q"])


class Interface(unittest.TestCase):
    def test_names_and_arguments(self):
        fan = Fan(1)
        self.assertEqual(len(inspect.signature(Fan).parameters), 1)
        for name, many in (("lay", 3), ("close", 1), ("names", 0), ("tell", 2), ("carry", 2), ("catch_up", 1),
                           ("heard", 1), ("lost", 1), ("waiting", 1), ("lag", 1), ("slowest", 0)):
            with self.subTest(name):
                self.assertEqual(len(inspect.signature(getattr(fan, name)).parameters), many)


if __name__ == "__main__":
    unittest.main()
