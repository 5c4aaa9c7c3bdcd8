"""[1.1] and [1.2]: messages."""

import inspect
import itertools
import unittest

from tellroads import messages
from tellroads.messages import gaps_in, is_message, last_ones, of_topics, state_of

LETTERS = "abcdefghijklmnopqrstuvwxyz"

GOOD_NUMBERS = (1, 2, 10, 999998, 999999)
GOOD_TOPICS = ("a", "z", "ab", "abc", "zzz")
GOOD_TEXTS = ("", "a", "z", " ", "\n", "a b\nc", "abcdefgh", "        ", "\n\n\n\n\n\n\n\n")

NO_PARTS = (None, True, False, [], (), [1], ("a",), [None, [True]], ((1, "a", ""),))
BAD_NUMBERS = NO_PARTS + (0, -1, -999999, 1000000, 1000001, 10 ** 5000, "", "1", "a")
BAD_TOPICS = NO_PARTS + (
    0, 1, "", "abcd", "abcde", "A", "aB", "abC", "1", "a1",
    " ", "a ", " a", "a b", "\n", "a\n", "\na", "ab\n", "abc\n")
BAD_TEXTS = NO_PARTS + (
    0, 1, "abcdefghi", "         ", "\n" * 9, "abcdefgh\n", "abcdefgh ", "a" * 1000,
    "A", "abC", "0", "a1", "a\t", "\r\n")

# Signs just beyond those told of, kinds of blanks and line ends, and letters of other alphabets.
STRANGE_SIGNS = (
    "`{@[/:09~_-.,\t\r\x0b\x0c\x00\x1c\x1f\x7f\x85\xa0\u2028\u2029\u3000\xe9\xdf\xaa\u0430\uff41\ud800")


def deep(thing, depth, kind):
    for _ in range(depth):
        thing = kind([thing])
    return thing


class IsMessage(unittest.TestCase):
    def says(self, thing, answer):
        with self.subTest(repr(thing)[:80]):
            self.assertIs(is_message(thing), answer)

    def test_messages_as_they_are_told(self):
        for thing in itertools.product(GOOD_NUMBERS, GOOD_TOPICS, GOOD_TEXTS):
            self.assertIs(is_message(thing), True, thing)

    def test_numbers_at_their_bounds(self):
        for number, answer in ((0, False), (1, True), (999999, True), (1000000, False)):
            self.says((number, "a", "b"), answer)

    def test_topics_at_their_bounds(self):
        for topic, answer in (("", False), ("a", True), ("abc", True), ("abcd", False)):
            self.says((1, topic, "b"), answer)

    def test_texts_at_their_bounds(self):
        for text, answer in (("", True), ("abcdefgh", True), ("abcdefghi", False)):
            self.says((1, "a", text), answer)

    def test_one_wrong_part_is_enough(self):
        for number in BAD_NUMBERS:
            if not isinstance(number, int) or number < 10 ** 100:
                self.says((number, "a", "b"), False)
            else:
                self.assertIs(is_message((number, "a", "b")), False)
        for topic in BAD_TOPICS:
            self.says((1, topic, "b"), False)
        for text in BAD_TEXTS:
            self.says((1, "a", text), False)

    def test_every_sign(self):
        for code in range(0x300):
            sign = chr(code)
            self.assertIs(is_message((1, sign, "")), sign in LETTERS, code)
            self.assertIs(is_message((1, "b" + sign, "")), sign in LETTERS, code)
            self.assertIs(is_message((1, "a", sign)), sign in LETTERS + " \n", code)
            self.assertIs(is_message((1, "a", "b" + sign)), sign in LETTERS + " \n", code)

    def test_strange_signs_in_every_place(self):
        for sign in STRANGE_SIGNS:
            for place in range(3):
                self.assertIs(is_message((1, "ab"[:place] + sign + "ab"[place:], "")), False, repr(sign))
            for place in range(8):
                text = "abc ef\n"
                self.assertIs(is_message((1, "a", text[:place] + sign + text[place:])), False, repr(sign))

    def test_truths_are_no_numbers(self):
        self.says((True, "a", "b"), False)
        self.says((False, "a", "b"), False)

    def test_fewer_and_more_parts(self):
        for thing in ((), (1,), (1, "a"), (1, "a", "b", "c"), (1, "a", "b", None), (1, 1, "a", "b"),
                      ("a", "b"), (1, "a", "b", 1, "a", "b")):
            self.says(thing, False)

    def test_parts_in_another_order(self):
        for thing in (("a", 1, "b"), ("a", "b", 1), (1, "", "a")):
            self.says(thing, False)

    def test_lists_are_no_tuples(self):
        for thing in ([], [1, "a", "b"], [(1, "a", "b")], ((1, "a", "b"),), ([1, "a", "b"],)):
            self.says(thing, False)
        self.says((1, ["a"], "b"), False)
        self.says((1, "a", ["b"]), False)
        self.says(([1], "a", "b"), False)
        self.says((1, ("a", "b"), "b"), False)

    def test_any_other_thing(self):
        for thing in (None, True, False, 0, 1, -1, 10 ** 30, "", "a", "abc", "1ab", "(1, 'a', '')"):
            self.says(thing, False)

    def test_lists_and_tuples_in_one_another(self):
        for kind in (list, tuple):
            for depth in range(1, 11):
                for inner in (None, True, 1, "a", (1, "a", "b")):
                    self.says(deep(inner, depth, kind), False)
                    self.says((deep(inner, depth, kind), "a", "b"), False)
                    self.says((1, deep(inner, depth, kind), "b"), False)
                    self.says((1, "a", deep(inner, depth, kind)), False)


SOME = [(1, "a", "x"), (2, "b", ""), (3, "a", "y"), (5, "abc", "z"), (8, "b", "\n"), (9, "a", "x")]


class OfTopics(unittest.TestCase):
    def test_topics_as_a_list(self):
        self.assertEqual(of_topics(SOME, ["b"]), [(2, "b", ""), (8, "b", "\n")])
        self.assertEqual(of_topics(SOME, ["abc", "b"]), [(2, "b", ""), (5, "abc", "z"), (8, "b", "\n")])
        self.assertEqual(of_topics(SOME, ["b", "b"]), [(2, "b", ""), (8, "b", "\n")])

    def test_a_topic_is_the_whole_word(self):
        self.assertEqual(of_topics([(1, "a", ""), (2, "ab", ""), (3, "b", "")], ["ab"]), [(2, "ab", "")])

    def test_topics_that_no_message_has(self):
        self.assertEqual(of_topics(SOME, ["c"]), [])
        self.assertEqual(of_topics(SOME, ["c", "abc"]), [(5, "abc", "z")])

    def test_no_topics(self):
        self.assertEqual(of_topics(SOME, []), [])

    def test_all_topics(self):
        self.assertEqual(of_topics(SOME, None), SOME)

    def test_in_their_order_whatever_it_is(self):
        for row in itertools.permutations(SOME[:5]):
            self.assertEqual(of_topics(list(row), None), list(row))
            self.assertEqual(of_topics(list(row), ["b", "a"]), [one for one in row if one[1] != "abc"])

    def test_no_messages(self):
        for topics in (None, [], ["a"]):
            self.assertEqual(of_topics([], topics), [])

    def test_a_list_is_told(self):
        for topics in (None, [], ["a"]):
            self.assertIs(type(of_topics(SOME, topics)), list)


class LastOnes(unittest.TestCase):
    def test_the_greatest_number_of_each_topic_by_numbers(self):
        self.assertEqual(last_ones(SOME), [(5, "abc", "z"), (8, "b", "\n"), (9, "a", "x")])

    def test_messages_in_any_order(self):
        for row in itertools.permutations(SOME):
            self.assertEqual(last_ones(list(row)), [(5, "abc", "z"), (8, "b", "\n"), (9, "a", "x")])

    def test_one_topic_with_several_numbers(self):
        for row in itertools.permutations([(2, "a", "z"), (3, "a", "y"), (10, "a", "x")]):
            self.assertEqual(last_ones(list(row)), [(10, "a", "x")])

    def test_each_topic_once(self):
        row = [(3, "a", ""), (2, "b", ""), (1, "c", "")]
        self.assertEqual(last_ones(row), [(1, "c", ""), (2, "b", ""), (3, "a", "")])

    def test_no_messages(self):
        self.assertEqual(last_ones([]), [])

    def test_numbers_somewhat_beyond_their_bounds(self):
        row = [(0, "a", "x"), (-1, "a", "y"), (-2, "b", "z"), (1000000, "c", "")]
        self.assertEqual(last_ones(row), [(-2, "b", "z"), (0, "a", "x"), (1000000, "c", "")])


class StateOf(unittest.TestCase):
    def test_the_texts_of_the_last_ones(self):
        self.assertEqual(state_of(SOME), {"a": "x", "b": "\n", "abc": "z"})

    def test_messages_in_any_order(self):
        for row in itertools.permutations(SOME[:5]):
            self.assertEqual(state_of(list(row)), {"a": "y", "b": "\n", "abc": "z"})

    def test_an_empty_text_is_told_too(self):
        self.assertEqual(state_of([(1, "a", "x"), (2, "a", "")]), {"a": ""})

    def test_no_messages(self):
        self.assertEqual(state_of([]), {})

    def test_a_dict_is_told(self):
        self.assertIs(type(state_of(SOME)), dict)


class GapsIn(unittest.TestCase):
    def test_gaps_of_one_number_and_of_several(self):
        self.assertEqual(gaps_in([1, 3]), [(2, 2)])
        self.assertEqual(gaps_in([1, 4]), [(2, 3)])
        self.assertEqual(gaps_in([2, 10]), [(3, 9)])
        self.assertEqual(gaps_in([1, 3, 4, 9, 10, 12]), [(2, 2), (5, 8), (11, 11)])

    def test_none(self):
        self.assertEqual(gaps_in([1, 2, 3]), [])
        self.assertEqual(gaps_in([4, 5]), [])

    def test_nothing_ahead_of_the_first_or_behind_the_last(self):
        self.assertEqual(gaps_in([5]), [])
        self.assertEqual(gaps_in([5, 7]), [(6, 6)])

    def test_an_empty_list(self):
        self.assertEqual(gaps_in([]), [])

    def test_far_apart(self):
        self.assertEqual(gaps_in([1, 999999]), [(2, 999998)])
        self.assertEqual(gaps_in([-2, 0, 10 ** 30]), [(-1, -1), (1, 10 ** 30 - 1)])

    def test_every_list_of_small_numbers(self):
        for bits in itertools.product((False, True), repeat=8):
            numbers = [number for number in range(8) if bits[number]]
            absent = [number for number in range(numbers[0], numbers[-1]) if not bits[number]] if numbers else []
            gaps = gaps_in(numbers)
            self.assertEqual([number for first, last in gaps for number in range(first, last + 1)], absent)
            for first, last in gaps:
                self.assertIs(type((first, last)), tuple)
                self.assertLessEqual(first, last)
                self.assertTrue(bits[first - 1] and bits[last + 1])

    def test_tuples_in_a_list_are_told(self):
        told = gaps_in([1, 3])
        self.assertIs(type(told), list)
        self.assertIs(type(told[0]), tuple)


class Kept(unittest.TestCase):
    """[0.3]: what is handed in stays, what is told is new."""

    def test_what_is_handed_in_is_not_changed(self):
        row = [SOME[3], SOME[0], SOME[5], SOME[1]]
        topics = ["b", "a"]
        numbers = [1, 4, 5, 9]
        of_topics(row, topics)
        of_topics(row, None)
        last_ones(row)
        state_of(row)
        gaps_in(numbers)
        self.assertEqual(row, [SOME[3], SOME[0], SOME[5], SOME[1]])
        self.assertEqual(topics, ["b", "a"])
        self.assertEqual(numbers, [1, 4, 5, 9])

    def test_told_lists_are_new_ones(self):
        row = [SOME[0], SOME[1]]
        for tell in (lambda: of_topics(row, None), lambda: of_topics(row, ["a", "b"]), lambda: last_ones(row)):
            told = tell()
            self.assertEqual(told, row)
            told.append(SOME[2])
            told[0] = None
            self.assertEqual(row, [SOME[0], SOME[1]])
            self.assertEqual(tell(), row)

    def test_what_was_told_stays_when_the_handed_in_is_changed(self):
        row = [SOME[0], SOME[1]]
        topics = ["a", "b"]
        every = of_topics(row, None)
        some = of_topics(row, topics)
        last = last_ones(row)
        state = state_of(row)
        row.clear()
        topics.clear()
        for told in (every, some, last):
            self.assertEqual(told, [SOME[0], SOME[1]])
        self.assertEqual(state, {"a": "x", "b": ""})

    def test_empty_answers_are_new_ones_too(self):
        for tell in (lambda: of_topics([], None), lambda: of_topics(SOME, []), lambda: last_ones([]),
                     lambda: gaps_in([])):
            tell().append("changed")
            self.assertEqual(tell(), [])
        state_of([])["a"] = "changed"
        self.assertEqual(state_of([]), {})


class Interface(unittest.TestCase):
    def test_names_and_arguments(self):
        for name, many in (("is_message", 1), ("of_topics", 2), ("last_ones", 1), ("state_of", 1), ("gaps_in", 1)):
            with self.subTest(name):
                self.assertEqual(len(inspect.signature(getattr(messages, name)).parameters), many)


if __name__ == "__main__":
    unittest.main()
