"""[7.1] and [7.2]: messages as a stream of lines, read by pieces."""

import inspect
import itertools
import unittest

from tellroads.errors import NoText
from tellroads.streams import Reader, frame_text, read, stream_text

WRITTEN = [
    ((1, "a", ""), "id: 1\ntopic: a\ndata: \n\n"),
    ((2, "b", "x"), "id: 2\ntopic: b\ndata: x\n\n"),
    ((3, "abc", "one two"), "id: 3\ntopic: abc\ndata: one two\n\n"),
    ((4, "xyz", "p\nq\nr"), "id: 4\ntopic: xyz\ndata: p\ndata: q\ndata: r\n\n"),
    ((5, "a", "p\n\n\nq"), "id: 5\ntopic: a\ndata: p\ndata: \ndata: \ndata: q\n\n"),
    ((6, "a", "\np"), "id: 6\ntopic: a\ndata: \ndata: p\n\n"),
    ((7, "a", "p\n"), "id: 7\ntopic: a\ndata: p\ndata: \n\n"),
    ((8, "a", "\n"), "id: 8\ntopic: a\ndata: \ndata: \n\n"),
    ((9, "a", "\n\n\n\n\n\n\n\n"), "id: 9\ntopic: a\n" + "data: \n" * 9 + "\n"),
    ((10, "a", "  x  "), "id: 10\ntopic: a\ndata:   x  \n\n"),
    ((11, "a", " \n "), "id: 11\ntopic: a\ndata:  \ndata:  \n\n"),
    ((100, "zz", "        "), "id: 100\ntopic: zz\ndata:         \n\n"),
    ((999999, "on", "topic on"), "id: 999999\ntopic: on\ndata: topic on\n\n"),
    ((3, "id", "data"), "id: 3\ntopic: id\ndata: data\n\n"),
]
MESSAGES = [message for message, text in WRITTEN]
STREAM = "".join([text for message, text in WRITTEN])
SHORT = [(7, "ab", "x\ny"), (12, "c", "")]
SHORT_STREAM = "id: 7\ntopic: ab\ndata: x\ndata: y\n\nid: 12\ntopic: c\ndata: \n\n"

# Lines that stand up to an empty line, and are not just those of a message.
NO_MESSAGE = [
    # A line left out.
    ["topic: a", "data: x"], ["id: 1", "data: x"], ["id: 1", "topic: a"], ["id: 1"], ["topic: a"], ["data: x"],
    # A line twice.
    ["id: 1", "id: 1", "topic: a", "data: x"], ["id: 1", "topic: a", "topic: a", "data: x"],
    ["id: 1", "topic: a", "data: x", "topic: a"], ["id: 1", "topic: a", "data: x", "id: 1"],
    ["id: 1", "topic: a", "data: x", "id: 2", "topic: a", "data: x"],
    # Two exchanged.
    ["topic: a", "id: 1", "data: x"], ["id: 1", "data: x", "topic: a"], ["data: x", "topic: a", "id: 1"],
    ["id: 1", "data: x", "topic: a", "data: x"],
    # An unknown line.
    ["id: 1", "topic: a", "data: x", "more: x"], ["more: x", "id: 1", "topic: a", "data: x"], ["more"], [" "],
    ["id: 1", " ", "topic: a", "data: x"], ["id: 1", "topic: a", "data: x", " "],
    ["id: 1", "topic: a", "data: x", "x"], ["id: 1", "topic: a", "data: x", " :x"],
    # Lines that begin another way.
    ["id:1", "topic: a", "data: x"], ["id: 1", "topic:a", "data: x"], ["id: 1", "topic: a", "data:x"],
    ["id: 1", "topic: a", "data:"], ["ID: 1", "topic: a", "data: x"], [" id: 1", "topic: a", "data: x"],
    ["id: 1", " topic: a", "data: x"], ["id: 1", "topic: a", " data: x"], ["id", "topic", "data"],
    ["id: 1", "topic: a", "data: x", "data"], ["id 1", "topic: a", "data: x"],
    # Numbers that are none, or are written another way.
    ["id: ", "topic: a", "data: x"], ["id: 0", "topic: a", "data: x"], ["id: 01", "topic: a", "data: x"],
    ["id: 000001", "topic: a", "data: x"], ["id: 0999999", "topic: a", "data: x"],
    ["id: 1000000", "topic: a", "data: x"], ["id: 9999999", "topic: a", "data: x"],
    ["id: +1", "topic: a", "data: x"], ["id: -1", "topic: a", "data: x"], ["id:  1", "topic: a", "data: x"],
    ["id: 1 ", "topic: a", "data: x"], ["id: 1_0", "topic: a", "data: x"], ["id: 1.0", "topic: a", "data: x"],
    ["id: 0x1", "topic: a", "data: x"], ["id: one", "topic: a", "data: x"], ["id: 1a", "topic: a", "data: x"],
    ["id: " + "1" * 5000, "topic: a", "data: x"], ["id: " + "0" * 5000 + "1", "topic: a", "data: x"],
    # Topics that are none.
    ["id: 1", "topic: ", "data: x"], ["id: 1", "topic: abcd", "data: x"], ["id: 1", "topic: A", "data: x"],
    ["id: 1", "topic: a1", "data: x"], ["id: 1", "topic: a ", "data: x"], ["id: 1", "topic:  a", "data: x"],
    ["id: 1", "topic: a:b", "data: x"],
    # Texts that are none.
    ["id: 1", "topic: a", "data: X"], ["id: 1", "topic: a", "data: x1"], ["id: 1", "topic: a", "data: :"],
    ["id: 1", "topic: a", "data: x~"], ["id: 1", "topic: a", "data: x", "data: y!"],
    ["id: 1", "topic: a", "data: abcdefghi"], ["id: 1", "topic: a", "data: abcd", "data: efgh"],
    ["id: 1", "topic: a"] + ["data: "] * 10,
]


def in_pieces(text, cuts):
    ends = list(cuts) + [len(text)]
    starts = [0] + list(cuts)
    return [text[start:end] for start, end in zip(starts, ends)]


def fed(reader, pieces):
    found = []
    for piece in pieces:
        found += reader.feed(piece)
    return found


def message_lines(lines):
    return "".join([line + "\n" for line in lines]) + "\n"


class Writing(unittest.TestCase):
    def test_a_message(self):
        for message, text in WRITTEN:
            with self.subTest(message):
                self.assertEqual(frame_text(message), text)

    def test_a_stream(self):
        self.assertEqual(stream_text([]), "")
        for message, text in WRITTEN:
            self.assertEqual(stream_text([message]), text)
        self.assertEqual(stream_text(SHORT), SHORT_STREAM)
        self.assertEqual(stream_text(MESSAGES), STREAM)

    def test_messages_stand_as_they_come(self):
        for row in itertools.product(WRITTEN, repeat=2):
            self.assertEqual(stream_text([row[0][0], row[1][0]]), row[0][1] + row[1][1])

    def test_bounds_somewhat_passed_are_not_refused(self):
        self.assertEqual(frame_text((0, "abcd", "abcdefghi")), "id: 0\ntopic: abcd\ndata: abcdefghi\n\n")
        self.assertEqual(frame_text((1000000, "", "")), "id: 1000000\ntopic: \ndata: \n\n")


class Feeding(unittest.TestCase):
    def test_whole(self):
        self.assertEqual(Reader().feed(STREAM), MESSAGES)
        self.assertEqual(Reader().feed(SHORT_STREAM), SHORT)
        for message, text in WRITTEN:
            self.assertEqual(Reader().feed(text), [message])

    def test_a_told_message_is_one(self):
        for message in Reader().feed(STREAM):
            self.assertEqual([type(part) for part in message], [int, str, str])
            self.assertIs(type(message), tuple)

    def test_sign_by_sign(self):
        self.assertEqual(fed(Reader(), STREAM), MESSAGES)

    def test_cut_at_every_place(self):
        for cut in range(len(STREAM) + 1):
            self.assertEqual(fed(Reader(), in_pieces(STREAM, [cut])), MESSAGES)

    def test_cut_at_every_two_places(self):
        for cuts in itertools.combinations_with_replacement(range(len(SHORT_STREAM) + 1), 2):
            self.assertEqual(fed(Reader(), in_pieces(SHORT_STREAM, cuts)), SHORT)

    def test_told_by_the_piece_in_which_the_empty_line_ends(self):
        reader = Reader()
        ended = 0
        for place, sign in enumerate(SHORT_STREAM):
            whole = SHORT_STREAM[:place + 1].endswith("\n\n")
            self.assertEqual(reader.feed(sign), SHORT[ended:ended + 1] if whole else [])
            ended += whole
        self.assertEqual(ended, 2)

    def test_the_line_feed_of_the_empty_line_by_itself(self):
        reader = Reader()
        self.assertEqual(reader.feed("id: 7\ntopic: ab\ndata: x"), [])
        self.assertEqual(reader.feed("\n"), [])
        self.assertEqual(reader.feed("\n"), [(7, "ab", "x")])
        self.assertEqual(reader.feed("\n"), [])

    def test_a_piece_with_the_end_of_one_and_the_beginning_of_another(self):
        for cut in range(1, len(SHORT_STREAM)):
            reader = Reader()
            first = SHORT_STREAM[:cut].count("\n\n")
            self.assertEqual(reader.feed(SHORT_STREAM[:cut]), SHORT[:first])
            self.assertEqual(reader.feed(SHORT_STREAM[cut:]), SHORT[first:])

    def test_an_empty_piece(self):
        for cut in range(len(SHORT_STREAM) + 1):
            reader = Reader()
            found = reader.feed(SHORT_STREAM[:cut])
            between = reader.is_between()
            self.assertEqual(reader.feed(""), [])
            self.assertIs(reader.is_between(), between)
            self.assertEqual(found + reader.feed(SHORT_STREAM[cut:]), SHORT)

    def test_the_same_message_twice(self):
        self.assertEqual(Reader().feed(WRITTEN[0][1] * 2), [MESSAGES[0]] * 2)

    def test_numbers_may_fall(self):
        self.assertEqual(Reader().feed(stream_text(SHORT[::-1])), SHORT[::-1])


class LeftOut(unittest.TestCase):
    def test_lines_that_begin_with_a_colon_anywhere(self):
        lines = SHORT_STREAM.split("\n")[:-1]
        for place, remark in itertools.product(range(len(lines) + 1), (":", ": ", ":x", ":id: 1", "::", ": A~!")):
            text = message_lines(lines[:place] + [remark] + lines[place:])[:-1]
            self.assertEqual(Reader().feed(text), SHORT, text)
            self.assertEqual(fed(Reader(), text), SHORT, text)

    def test_several_of_them(self):
        lines = SHORT_STREAM.split("\n")[:-1]
        text = ":a\n:b\n" + "".join([line + "\n:c\n:\n" for line in lines])
        self.assertEqual(Reader().feed(text), SHORT)
        self.assertEqual(fed(Reader(), text), SHORT)

    def test_empty_lines_between_messages(self):
        frames = [frame_text(message) for message in SHORT]
        for many in itertools.product(range(4), repeat=3):
            text = "\n" * many[0] + frames[0] + "\n" * many[1] + frames[1] + "\n" * many[2]
            self.assertEqual(Reader().feed(text), SHORT)
            self.assertEqual(fed(Reader(), text), SHORT)

    def test_empty_lines_behind_a_line_that_begins_with_a_colon(self):
        for text in (":x\n\n", "\n:x\n\n", ":x\n:y\n\n\n", "\n\n", "\n", ":\n"):
            reader = Reader()
            self.assertEqual(reader.feed(text), [])
            self.assertEqual(reader.feed(SHORT_STREAM + text), SHORT)
            self.assertIs(reader.is_between(), True)

    def test_an_empty_line_within_a_message_is_not_left_out(self):
        for text in ("id: 1\n\n", "id: 1\n:x\n\n", "id: 1\ntopic: a\n\n"):
            with self.assertRaises(NoText):
                Reader().feed(text)

    def test_a_colon_behind_a_blank_is_not_left_out(self):
        with self.assertRaises(NoText):
            Reader().feed(" :x\n\n")


class Between(unittest.TestCase):
    def check(self, text, between):
        whole = Reader()
        whole.feed(text)
        by_signs = Reader()
        fed(by_signs, text)
        self.assertIs(whole.is_between(), between, text)
        self.assertIs(by_signs.is_between(), between, text)

    def test_at_the_beginning(self):
        self.check("", True)

    def test_within_a_line(self):
        for text in ("i", "id: 1", ":", ":x", "id: 1\nt", "id: 1\n:", "\ni", "\n:x", ":x\n:y", SHORT_STREAM + "i"):
            self.check(text, False)

    def test_behind_a_line_of_a_message(self):
        for text in ("id: 1\n", "id: 1\ntopic: a\n", "id: 1\ntopic: a\ndata: x\n", SHORT_STREAM + "id: 1\n"):
            self.check(text, False)

    def test_behind_a_line_that_begins_with_a_colon(self):
        for text in (":\n", ":x\n", "\n:x\n", ":x\n:y\n", SHORT_STREAM + ":x\n"):
            self.check(text, True)
        for text in ("id: 1\n:x\n", ":x\nid: 1\n:x\n:y\n", "id: 1\ntopic: a\ndata: x\n:x\n"):
            self.check(text, False)

    def test_behind_an_empty_line(self):
        for text in ("\n", "\n\n", ":x\n\n", SHORT_STREAM, SHORT_STREAM + "\n", "\n" + SHORT_STREAM):
            self.check(text, True)

    def test_behind_each_sign_of_a_stream(self):
        for end in range(len(SHORT_STREAM) + 1):
            text = SHORT_STREAM[:end]
            self.check(text, text == "" or text.endswith("\n\n"))


class Refused(unittest.TestCase):
    def refuse(self, reader, piece):
        with self.assertRaises(NoText) as caught:
            reader.feed(piece)
        self.assertIs(type(caught.exception), NoText)

    def test_lines_that_are_not_just_those_of_a_message(self):
        for lines in NO_MESSAGE:
            with self.subTest(lines):
                self.refuse(Reader(), message_lines(lines))
                self.refuse(Reader(), SHORT_STREAM + message_lines(lines))
                self.refuse(Reader(), message_lines(lines) + SHORT_STREAM)
                self.refuse(Reader(), ":x\n\n" + message_lines(lines + [":x"]))

    def test_every_sign_at_its_place(self):
        letters = "abcdefghijklmnopqrstuvwxyz"
        for sign in [chr(code) for code in range(ord(" "), ord("~") + 1)]:
            for number in ("1" + sign, sign + "1", "1" + sign + "1"):
                if number.isdigit() and number[0] != "0":
                    self.assertEqual(Reader().feed(f"id: {number}\ntopic: a\ndata: x\n\n"), [(int(number), "a", "x")])
                else:
                    self.refuse(Reader(), f"id: {number}\ntopic: a\ndata: x\n\n")
            for word in (sign, "a" + sign, sign + "a", "a" + sign + "a"):
                topic = f"id: 1\ntopic: {word}\ndata: x\n\n"
                text = f"id: 1\ntopic: a\ndata: x\ndata: {word}\n\n"
                if sign in letters:
                    self.assertEqual(Reader().feed(topic), [(1, word, "x")])
                else:
                    self.refuse(Reader(), topic)
                if sign in letters + " ":
                    self.assertEqual(Reader().feed(text), [(1, "a", "x\n" + word)])
                else:
                    self.refuse(Reader(), text)

    def test_only_where_the_empty_line_comes(self):
        for lines in NO_MESSAGE:
            with self.subTest(lines):
                reader = Reader()
                self.assertEqual(fed(reader, message_lines(lines)[:-1]), [])
                self.assertIs(reader.is_between(), False)
                self.refuse(reader, "\n")

    def test_behind_a_refusal_the_reader_is_as_it_was(self):
        bad = ["\n\nid: 1\n\n", "\n\n~\n\n", "\n\n" + SHORT_STREAM + "x\n\n", "\n\nx\n\n" + SHORT_STREAM]
        for cut, piece in itertools.product(range(len(SHORT_STREAM) + 1), bad):
            reader = Reader()
            found = reader.feed(SHORT_STREAM[:cut])
            between = reader.is_between()
            self.refuse(reader, piece)
            self.assertIs(reader.is_between(), between)
            self.refuse(reader, piece)
            self.assertEqual(found + reader.feed(SHORT_STREAM[cut:]), SHORT)
            self.assertIs(reader.is_between(), True)

    def test_a_refused_empty_line_is_not_taken(self):
        reader = Reader()
        reader.feed("id: 1\ntopic: a\n")
        for many in range(3):
            self.refuse(reader, "\n")
            self.assertIs(reader.is_between(), False)
        self.assertEqual(reader.feed("data: x\n\n"), [(1, "a", "x")])

    def test_messages_ahead_of_a_refusal_in_a_piece_are_told_by_the_next_one(self):
        reader = Reader()
        reader.feed("id: 7\ntopic: ab\ndata: x\n")
        self.refuse(reader, "\nid: 8\n\n")
        self.assertEqual(reader.feed("\n"), [(7, "ab", "x")])


class Reading(unittest.TestCase):
    def refuse(self, text):
        with self.assertRaises(NoText) as caught:
            read(text)
        self.assertIs(type(caught.exception), NoText)

    def test_the_stream_of_messages_reads_back(self):
        self.assertEqual(read(""), [])
        self.assertEqual(read(STREAM), MESSAGES)
        for row in itertools.product(MESSAGES, repeat=2):
            self.assertEqual(read(stream_text(list(row))), list(row))

    def test_a_text_that_stops_within_a_line_or_a_message(self):
        for end in range(1, len(SHORT_STREAM)):
            if not SHORT_STREAM[:end].endswith("\n\n"):
                self.refuse(SHORT_STREAM[:end])

    def test_a_text_that_begins_within_a_message(self):
        for start in range(1, len(SHORT_STREAM)):
            if not SHORT_STREAM[:start].endswith("\n\n"):
                self.refuse(SHORT_STREAM[start:])

    def test_lines_that_begin_with_a_colon(self):
        lines = SHORT_STREAM.split("\n")[:-1]
        for place in range(len(lines) + 1):
            self.refuse(message_lines(lines[:place] + [":x"] + lines[place:])[:-1])
        self.refuse(":\n")
        self.refuse(":")

    def test_more_empty_lines(self):
        frames = [frame_text(message) for message in SHORT]
        for text in ("\n", "\n\n", "\n" + SHORT_STREAM, SHORT_STREAM + "\n", frames[0] + "\n" + frames[1]):
            self.refuse(text)

    def test_lines_that_are_not_just_those_of_a_message(self):
        for lines in NO_MESSAGE:
            with self.subTest(lines):
                self.refuse(message_lines(lines))
                self.refuse(SHORT_STREAM + message_lines(lines))

    def test_other_signs(self):
        for text in ("id: 1\r\ntopic: a\r\ndata: x\r\n\r\n", "id: \u0661\ntopic: a\ndata: x\n\n",
                     "id: 1\ntopic: \xe9\ndata: x\n\n", "id: 1\ntopic: a\ndata: \t\n\n",
                     "id: 1\x0btopic: a\x0bdata: x\n\n", "id: 1\ntopic: a\ndata: x\u2028data: y\n\n", "\ufeff"):
            self.refuse(text)

    def test_each_text_that_has_one_sign_other_is_another_stream_or_none(self):
        text = "id: 19\ntopic: ab\ndata: x\ndata: \n\n"
        texts = []
        for place, sign in itertools.product(range(len(text) + 1), "\n :0a9A"):
            texts.append(text[:place] + sign + text[place:])
            texts.append(text[:place] + sign + text[place + 1:])
            texts.append(text[:place] + text[place + 1:])
        for other in texts:
            try:
                messages = read(other)
            except NoText:
                continue
            self.assertEqual(stream_text(messages), other)


class Interface(unittest.TestCase):
    def test_names_and_arguments(self):
        reader = Reader()
        self.assertEqual(len(inspect.signature(Reader).parameters), 0)
        for one, many in ((frame_text, 1), (stream_text, 1), (read, 1), (reader.feed, 1), (reader.is_between, 0)):
            self.assertEqual(len(inspect.signature(one).parameters), many)

    def test_kinds(self):
        self.assertIs(type(frame_text(SHORT[0])), str)
        self.assertIs(type(stream_text([])), str)
        self.assertIs(type(read("")), list)
        self.assertIs(type(Reader().feed("")), list)


if __name__ == "__main__":
    unittest.main()
