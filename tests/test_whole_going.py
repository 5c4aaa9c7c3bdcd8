"""[0.2] (f) and (g) and [0.3], as far as they speak of streams, windows and tries."""

import itertools
import unittest

from tellroads.errors import NoNumber, NoText, TellError
from tellroads.messages import is_message
from tellroads.streams import Reader, frame_text, read, stream_text
from tellroads.tries import Caller, moments, tries_within, wait_of, waits
from tellroads.windows import Window

FIVE = [(1, "a", "x"), (2, "b", ""), (3, "abc", "y\n\nz"), (40, "c", "\n"), (999999, "a", " x ")]
LINES = ("id: 1", "id: 2", "topic: a", "data: ", "data: x", "", ":", "x")
PLANS = [plan for plan in itertools.product((1, 2, 5), (1, 2, 3), (1, 4, 5, 13), (1, 2, 5)) if plan[2] >= plan[0]]


def do(thing, step):
    try:
        return getattr(thing, step[0])(*step[1])
    except TellError as refusal:
        return type(refusal).__name__


def fed(reader, pieces):
    return [message for piece in pieces for message in reader.feed(piece)]


def window_told(window):
    return (window.again(), window.waiting(), window.came(), window.free())


def caller_told(caller):
    return (caller.tries_at(), caller.bad_ones())


def reader_told(reader):
    return reader.is_between()


class InWhateverPieces(unittest.TestCase):
    """(f): a stream tells the same messages."""

    def test_every_cutting_of_a_short_stream(self):
        text = "id: 1\ntopic: a\ndata: \n\n"
        for cuts in itertools.product((False, True), repeat=14):
            ends = [0, 4] + [place + 5 for place, cut in enumerate(cuts) if cut] + [len(text)]
            pieces = [text[start:end] for start, end in zip(ends, ends[1:])]
            self.assertEqual(fed(Reader(), pieces), [(1, "a", "")])

    def test_pieces_of_every_length(self):
        text = ":begins\n\n" + stream_text(FIVE[:2]) + "\n:\n" + stream_text(FIVE[2:])
        for length in range(1, len(text) + 1):
            pieces = [text[start:start + length] for start in range(0, len(text), length)]
            self.assertEqual(fed(Reader(), pieces), FIVE)

    def test_a_refused_stream_is_refused_in_whatever_pieces(self):
        good = stream_text(FIVE[:1])
        for bad in ("id: 1\n\n", "x\n\n", "id: 01\ntopic: a\ndata: \n\n"):
            for cut in range(len(bad)):
                reader = Reader()
                self.assertEqual(fed(reader, good + bad[:cut]), FIVE[:1])
                with self.assertRaises(NoText):
                    reader.feed(bad[cut:])


class ReadsBack(unittest.TestCase):
    """(f): as what it writes, and as nothing else."""

    def test_what_is_written(self):
        texts = ["".join(signs) for many in range(4) for signs in itertools.product("a \n", repeat=many)]
        for text in texts + ["abcdefgh", "\n" * 8, " " * 8]:
            for number, topic in ((1, "a"), (999999, "xyz")):
                message = (number, topic, text)
                self.assertEqual(read(frame_text(message)), [message])
                self.assertEqual(Reader().feed(frame_text(message)), [message])
        for many in range(4):
            for row in itertools.product(FIVE, repeat=many):
                self.assertEqual(read(stream_text(list(row))), list(row))

    def test_unlike_messages_are_written_unlike(self):
        texts = ["".join(signs) for many in range(3) for signs in itertools.product("a \n", repeat=many)]
        row = list(itertools.product((1, 2, 12), ("a", "b", "ab"), texts))
        self.assertEqual(len({frame_text(message) for message in row}), len(row))

    def test_nothing_else(self):
        found = 0
        for many in range(6):
            for lines in itertools.product(LINES, repeat=many):
                text = "".join([line + "\n" for line in lines])
                try:
                    messages = read(text)
                except NoText:
                    continue
                found += 1
                self.assertTrue(all(is_message(message) for message in messages))
                self.assertEqual(stream_text(messages), text)
        # None at all; and two numbers, one topic, texts of one part (2) or of two (4).
        self.assertEqual(found, 1 + 2 * 2 + 2 * 4)

    def test_what_a_reader_tells_is_what_is_read_without_the_lines_left_out(self):
        for lines in itertools.product(LINES, repeat=5):
            text = "".join([line + "\n" for line in lines])
            plain = []
            for line in lines:
                if not line.startswith(":") and not (line == "" and (plain == [] or plain[-1] == "")):
                    plain.append(line)
            try:
                told = stream_text(Reader().feed(text))
            except NoText:
                told = None
            ended = "".join([line + "\n" for line in plain])
            if told is None:
                with self.assertRaises(NoText):
                    read(ended)
            else:
                self.assertTrue(ended.startswith(told))
                self.assertNotIn("", plain[told.count("\n"):])


class NoMoreThanThereIsRoomFor(unittest.TestCase):
    """(g)"""

    def check(self, room, steps):
        window = Window(room)
        put = []
        gone = []
        for step in steps:
            ahead = len(window.again())
            if step == "put":
                put.append((len(put) + 1, "a", ""))
                going = window.put(put[-1])
            elif step == "done":
                again = window.again()
                if again == []:
                    continue
                ahead = len(again[1:])
                going = window.done(again[0][0])
            else:
                room = step
                going = window.widen(room)
            gone += going
            self.assertEqual(gone + window.waiting(), put)
            self.assertEqual(gone[window.came():], window.again())
            # More than there is room for are on the way only where they were so already.
            self.assertLessEqual(len(window.again()), max(room, ahead))
            self.assertEqual(window.free(), max(0, room - len(window.again())))
            self.assertTrue(window.waiting() == [] or window.free() == 0)

    def test_every_short_history(self):
        for room in (0, 1, 2):
            for steps in itertools.product(("put", "done", 0, 1, 3), repeat=6):
                self.check(room, steps)

    def test_a_long_history(self):
        for room in range(6):
            self.check(room, (["put"] * 7 + ["done", "done", 2, "put", 5, "done", 0, "put", "done", 3]) * 4)

    def test_all_come_where_there_is_any_room(self):
        for room in range(1, 7):
            window = Window(room)
            came = []
            for message in FIVE:
                window.put(message)
            while window.again() != []:
                came.append(window.again()[0])
                window.done(came[-1][0])
            self.assertEqual(came, FIVE)
            self.assertEqual(window_told(window), ([], [], 5, room))


class LaterAndLater(unittest.TestCase):
    """(g): waits grow up to the most, and no try is made ahead of its time."""

    def test_waits_grow_up_to_the_most(self):
        for plan in PLANS:
            row = [wait_of(plan, number) for number in range(8)]
            self.assertEqual(row, sorted(row))
            self.assertEqual(row[0], plan[0])
            self.assertTrue(all(wait <= plan[2] for wait in row))
            if plan[1] > 1:
                self.assertEqual(row[-1], plan[2])
                self.assertTrue(all(one < other or one == plan[2] for one, other in zip(row, row[1:])))
            self.assertEqual(waits(plan), row[:plan[3] - 1])

    def test_no_try_ahead_of_its_time(self):
        for plan in PLANS:
            caller = Caller(plan, 3)
            tried = []
            for now in range(90):
                when = caller.tries_at()
                told = do(caller, ("failed", (now,)))
                if when is None or now < when:
                    self.assertEqual(told, "NoNumber")
                else:
                    self.assertNotEqual(told, "NoNumber")
                    tried.append(now)
            self.assertEqual(tried, moments(plan, 3))
            for now in range(90):
                self.assertEqual(sum(moment <= now + 3 for moment in tried), tries_within(plan, now))


class ToldListsAreNew(unittest.TestCase):
    """[0.3]: whoever got one may change it, and nothing that is told then changes."""

    def spoil(self, told):
        self.assertIs(type(told), list)
        told.append("spoilt")
        told.reverse()

    def test_windows(self):
        steps = [("put", (message,)) for message in FIVE] + [("done", (1,)), ("widen", (4,)), ("done", (3,))]
        window = Window(2)
        other = Window(2)
        for step in steps:
            told = do(window, step)
            self.assertEqual(told, do(other, step))
            for row in (told, window.again(), window.waiting()):
                self.spoil(row)
            self.assertEqual(window_told(window), window_told(other))

    def test_readers(self):
        reader = Reader()
        for message in FIVE:
            text = frame_text(message)
            told = reader.feed(text[:9])
            self.assertEqual(told, [])
            self.spoil(told)
            told = reader.feed(text[9:])
            self.assertEqual(told, [message])
            self.spoil(told)

    def test_functions(self):
        for make in (lambda: read(stream_text(FIVE)), lambda: read(""), lambda: waits((1, 2, 5, 4)),
                     lambda: moments((1, 2, 5, 4), 3)):
            ahead = make()
            self.spoil(make())
            self.assertEqual(make(), ahead)

    def test_what_was_told_stays_when_more_comes(self):
        window = Window(1)
        first = window.put(FIVE[0])
        window.put(FIVE[1])
        told = window_told(window)
        window.done(1)
        window.widen(5)
        window.put(FIVE[2])
        self.assertEqual((first, told), (FIVE[:1], (FIVE[:1], FIVE[1:2], 0, 0)))
        reader = Reader()
        told = reader.feed(frame_text(FIVE[0]))
        reader.feed(frame_text(FIVE[1]))
        self.assertEqual(told, FIVE[:1])

    def test_things_of_one_kind_share_nothing(self):
        for make, step, tell in ((lambda: Window(1), ("put", (FIVE[0],)), window_told),
                                 (Reader, ("feed", ("id: 1\n",)), reader_told),
                                 (lambda: Caller((1, 1, 1, 3), 0), ("failed", (0,)), caller_told)):
            thing = make()
            other = make()
            ahead = tell(other)
            do(thing, step)
            self.assertNotEqual(tell(thing), ahead)
            self.assertEqual(tell(other), ahead)
            self.assertEqual(tell(make()), ahead)


class WhatIsHandedIn(unittest.TestCase):
    """[0.3]: it is not changed."""

    def test_messages_of_a_stream(self):
        handed = list(FIVE)
        text = stream_text(handed)
        self.assertEqual(handed, FIVE)
        handed.clear()
        self.assertEqual(stream_text(FIVE), text)

    def test_a_list_read_back_and_handed_in_again(self):
        messages = read(stream_text(FIVE))
        self.assertEqual(stream_text(messages), stream_text(FIVE))
        self.assertEqual(messages, FIVE)


class NoneIsTold(unittest.TestCase):
    """[0.3]: where nothing else is said."""

    def test_callers(self):
        caller = Caller((1, 1, 1, 3), 0)
        self.assertIsNone(caller.went_well(0))
        self.assertIsNone(caller.begin(0))


class WhatIsRefused(unittest.TestCase):
    """[0.3]: it changes nothing, neither what is told then nor what comes of what is done then."""

    def check(self, make, steps, refused, tell, more):
        thing = make()
        other = make()
        for step in steps:
            do(thing, step)
            do(other, step)
        for refusal, step in refused:
            ahead = tell(thing)
            self.assertEqual(do(thing, step), refusal.__name__)
            self.assertEqual(tell(thing), ahead)
        for step in more:
            self.assertEqual(do(thing, step), do(other, step))
            self.assertEqual(tell(thing), tell(other))

    def test_windows(self):
        steps = [("put", (message,)) for message in FIVE[:4]] + [("done", (1,))]
        refused = [(NoNumber, ("done", (number,))) for number in (-1, 0, 1, 4, 40, 999999)]
        more = [("put", (FIVE[4],)), ("done", (3,)), ("widen", (1,)), ("done", (40,)), ("done", (999999,))]
        self.check(lambda: Window(2), steps, refused, window_told, more)

    def test_callers(self):
        early = [(NoNumber, (name, (now,))) for name in ("failed", "went_well") for now in (0, 5, 6)]
        more = [("failed", (now,)) for now in (7, 11, 19, 30)] + [("begin", (1,)), ("failed", (1,))]
        self.check(lambda: Caller((2, 2, 9, 3), 5), [("failed", (5,))], early, caller_told, more)
        never = [(NoNumber, (name, (now,))) for name in ("failed", "went_well") for now in (5, 99)]
        self.check(lambda: Caller((2, 2, 9, 1), 5), [("failed", (5,))], never, caller_told, more)

    def test_readers(self):
        text = frame_text(FIVE[2])
        for cut in range(len(text)):
            refused = [(NoText, ("feed", (piece,))) for piece in ("\n\nx\n\n", "\n\n" + stream_text(FIVE) + "id: 1\n\n")]
            more = [("feed", (sign,)) for sign in text[cut:]]
            self.check(Reader, [("feed", (text[:cut],))], refused, reader_told, more)


if __name__ == "__main__":
    unittest.main()
