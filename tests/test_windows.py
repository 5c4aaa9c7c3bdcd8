"""[8.1]: windows."""

import inspect
import itertools
import unittest

from tellroads.errors import NoNumber
from tellroads.windows import Window

FIVE = [(1, "a", "x"), (2, "b", ""), (4, "a", "y"), (7, "c", "z"), (8, "a", "x")]


def window_of(room, row):
    window = Window(room)
    for message in row:
        window.put(message)
    return window


def all_told(window):
    return (window.again(), window.waiting(), window.came(), window.free())


class Putting(unittest.TestCase):
    def test_at_first_nothing_is_on_the_way(self):
        for room in range(4):
            self.assertEqual(all_told(Window(room)), ([], [], 0, room))

    def test_up_to_the_room_all_go(self):
        for room in range(8):
            window = Window(room)
            for many, message in enumerate(FIVE, start=1):
                self.assertEqual(window.put(message), [message] if many <= room else [])
                gone = min(many, room)
                self.assertEqual(all_told(window), (FIVE[:gone], FIVE[gone:many], 0, room - gone))

    def test_without_room_all_wait(self):
        self.assertEqual(all_told(window_of(0, FIVE)), ([], FIVE, 0, 0))

    def test_a_room_somewhat_below_0_is_none(self):
        window = Window(-1)
        self.assertEqual(window.put(FIVE[0]), [])
        self.assertEqual(all_told(window), ([], FIVE[:1], 0, 0))
        self.assertEqual(window.widen(1), FIVE[:1])
        self.assertEqual(window.widen(-2), [])
        self.assertEqual(all_told(window), (FIVE[:1], [], 0, 0))


class Done(unittest.TestCase):
    def test_the_first_one(self):
        window = window_of(2, FIVE)
        self.assertEqual(window.done(1), [FIVE[2]])
        self.assertEqual(all_told(window), (FIVE[1:3], FIVE[3:], 1, 0))

    def test_one_in_the_middle(self):
        window = window_of(3, FIVE)
        self.assertEqual(window.done(2), FIVE[3:])
        self.assertEqual(all_told(window), (FIVE[2:], [], 2, 0))

    def test_the_last_on_the_way(self):
        window = window_of(3, FIVE)
        self.assertEqual(window.done(4), FIVE[3:])
        self.assertEqual(all_told(window), (FIVE[3:], [], 3, 1))
        self.assertEqual(window.done(8), [])
        self.assertEqual(all_told(window), ([], [], 5, 3))

    def test_each_one_in_each_room(self):
        for room, many in itertools.product(range(1, 8), range(1, 6)):
            if many > room:
                continue
            window = window_of(room, FIVE)
            gone = min(room, 5)
            later = min(many + room, 5)
            self.assertEqual(window.done(FIVE[many - 1][0]), FIVE[gone:later])
            self.assertEqual(all_told(window), (FIVE[many:later], FIVE[later:], many, room - (later - many)))

    def test_with_more_on_the_way_than_there_is_room_for(self):
        window = window_of(4, FIVE)
        self.assertEqual(window.widen(2), [])
        self.assertEqual(window.done(1), [])
        self.assertEqual(all_told(window), (FIVE[1:4], FIVE[4:], 1, 0))
        self.assertEqual(window.done(2), [])
        self.assertEqual(all_told(window), (FIVE[2:4], FIVE[4:], 2, 0))
        self.assertEqual(window.done(4), FIVE[4:])
        self.assertEqual(all_told(window), (FIVE[3:], [], 3, 0))


class DoneRefused(unittest.TestCase):
    def refuse(self, window, number):
        ahead = all_told(window)
        with self.assertRaises(NoNumber) as caught:
            window.done(number)
        self.assertIs(type(caught.exception), NoNumber)
        self.assertEqual(all_told(window), ahead)

    def test_one_that_waits(self):
        for number in (4, 7, 8):
            self.refuse(window_of(2, FIVE), number)
        self.refuse(window_of(0, FIVE), 1)

    def test_one_that_has_come(self):
        window = window_of(2, FIVE)
        window.done(2)
        for number in (1, 2):
            self.refuse(window, number)
        self.assertEqual(window.done(4), [FIVE[4]])

    def test_one_that_was_never_put(self):
        for number in (-1, 0, 3, 5, 6, 9, 1000000):
            self.refuse(window_of(5, FIVE), number)
            self.refuse(window_of(2, FIVE), number)
            self.refuse(Window(3), number)


class Widening(unittest.TestCase):
    def test_to_more(self):
        for room, more in itertools.product(range(4), range(8)):
            if more < room:
                continue
            window = window_of(room, FIVE)
            gone = min(more, 5)
            self.assertEqual(window.widen(more), FIVE[room:gone])
            self.assertEqual(all_told(window), (FIVE[:gone], FIVE[gone:], 0, more - gone))

    def test_to_less_than_are_on_the_way(self):
        window = window_of(3, FIVE)
        self.assertEqual(window.widen(1), [])
        self.assertEqual(all_told(window), (FIVE[:3], FIVE[3:], 0, 0))
        self.assertEqual(window.put((9, "a", "")), [])
        self.assertEqual(window.widen(4), [FIVE[3]])

    def test_to_less_than_there_was_room_for(self):
        window = window_of(5, FIVE[:2])
        self.assertEqual(window.widen(3), [])
        self.assertEqual(all_told(window), (FIVE[:2], [], 0, 1))
        self.assertEqual(window.widen(2), [])
        self.assertEqual(all_told(window), (FIVE[:2], [], 0, 0))

    def test_to_0(self):
        window = window_of(2, FIVE)
        self.assertEqual(window.widen(0), [])
        self.assertEqual(all_told(window), (FIVE[:2], FIVE[2:], 0, 0))
        self.assertEqual(window.done(2), [])
        self.assertEqual(all_told(window), ([], FIVE[2:], 2, 0))
        self.assertEqual(window.widen(1), FIVE[2:3])

    def test_to_the_same(self):
        for room in range(7):
            window = window_of(room, FIVE)
            ahead = all_told(window)
            self.assertEqual(window.widen(room), [])
            self.assertEqual(all_told(window), ahead)


class EveryShortHistory(unittest.TestCase):
    """Beside a plain model: which have come, how many are on the way, and how many were put."""

    def model_step(self, model, kind, value):
        if kind == "put":
            model["put"] += 1
        elif kind == "widen":
            model["room"] = value
        elif not model["came"] < value <= model["gone"]:
            return NoNumber
        else:
            model["came"] = value
        ahead = model["gone"]
        while model["gone"] < model["put"] and model["gone"] - model["came"] < model["room"]:
            model["gone"] += 1
        return list(range(ahead + 1, model["gone"] + 1))

    def window_step(self, window, kind, value):
        try:
            told = getattr(window, kind)(value)
        except NoNumber:
            return NoNumber
        return [message[0] for message in told]

    def test_each(self):
        steps = [("put", None)] + [("done", number) for number in (1, 2, 3)] + [("widen", room) for room in (0, 1, 3)]
        for room in (0, 1, 2):
            for history in itertools.product(steps, repeat=5):
                window = Window(room)
                model = {"room": room, "put": 0, "gone": 0, "came": 0}
                for kind, value in history:
                    given = (model["put"] + 1, "a", "") if kind == "put" else value
                    self.assertEqual(self.window_step(window, kind, given), self.model_step(model, kind, value))
                    again = [message[0] for message in window.again()]
                    waiting = [message[0] for message in window.waiting()]
                    self.assertEqual(again, list(range(model["came"] + 1, model["gone"] + 1)))
                    self.assertEqual(waiting, list(range(model["gone"] + 1, model["put"] + 1)))
                    self.assertEqual(window.came(), model["came"])
                    self.assertEqual(window.free(), max(0, model["room"] - len(again)))


class Interface(unittest.TestCase):
    def test_names_and_arguments(self):
        window = Window(1)
        self.assertEqual(len(inspect.signature(Window).parameters), 1)
        for name, many in (("put", 1), ("done", 1), ("widen", 1), ("again", 0), ("waiting", 0), ("came", 0),
                           ("free", 0)):
            with self.subTest(name):
                self.assertEqual(len(inspect.signature(getattr(window, name)).parameters), many)

    def test_kinds(self):
        window = Window(1)
        for told in (window.put(FIVE[0]), window.done(1), window.widen(2), window.again(), window.waiting()):
            self.assertIs(type(told), list)


if __name__ == "__main__":
    unittest.main()
