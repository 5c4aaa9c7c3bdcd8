"""[10.1]: sieves."""

import inspect
import itertools
import unittest

from tellroads.sieves import first_apart, is_sieve, lets, sieved

PLAIN = [("topic", "a"), ("topic", "abc"), ("starts", "b"), ("starts", "xyz"), ("has", "x"), ("has", " "),
         ("has", "\n"), ("has", "a b\ncdef"), ("from", 1), ("from", 999999)]
NO_PLAIN = [
    ("topic", ""), ("topic", "abcd"), ("topic", "A"), ("topic", "a1"), ("topic", "a "), ("topic", "\n"), ("topic", 1),
    ("topic", None), ("topic", ("a",)), ("topic", ["a"]), ("topic", True), ("topic", "\xe9"),
    ("starts", ""), ("starts", "abcd"), ("starts", "A"), ("starts", " "), ("starts", 1), ("starts", None),
    ("starts", ("topic", "a")),
    ("has", ""), ("has", "abcdefghi"), ("has", "X"), ("has", "1"), ("has", "a\t"), ("has", "x:"), ("has", 1),
    ("has", None), ("has", ["x"]), ("has", True),
    ("from", 0), ("from", -1), ("from", 1000000), ("from", True), ("from", False), ("from", "1"), ("from", None),
    ("from", (1,)),
    # Parts too few or too many.
    (), ("topic",), ("starts",), ("has",), ("from",), ("not",), ("and",), ("or",),
    ("topic", "a", "b"), ("starts", "a", "b"), ("has", "x", "y"), ("from", 1, 2), ("topic", "a", ("topic", "a")),
    ("not", ("topic", "a"), ("topic", "a")), ("and", ("topic", "a")), ("or", ("topic", "a")),
    ("and", ("topic", "a"), ("topic", "a"), ("topic", "a")), ("or", ("topic", "a"), ("topic", "a"), ("topic", "a")),
    ("not", "topic", "a"),
    # Unknown words.
    ("word", "a"), ("", "a"), ("Topic", "a"), ("topic ", "a"), ("xor", ("topic", "a"), ("topic", "a")),
    (None, "a"), (1, "a"), (True, 1), (("topic", "a"), "a"), (["topic"], "a"), ("a", "topic"),
    (("and", 3), ("topic", "a"), ("topic", "a")),
]
NO_TUPLES = [None, True, False, 0, 1, -1, 5, 999999, "", "topic", "a", ["topic", "a"], [], [("topic", "a")],
             ["not", ("topic", "a")], [[[[[[[[[[]]]]]]]]]], ((((((((((),),),),),),),),),)]
MESSAGES = [(1, "a", ""), (2, "ab", "x"), (3, "abc", "xyz"), (4, "b", "x\ny"), (5, "ba", " x "), (6, "a", "zx"),
            (50, "c", "x"), (999999, "abc", "x\ny")]


def nots(many, sieve):
    for turn in range(many):
        sieve = ("not", sieve)
    return sieve


def of_depth(deep):
    """Sieves of just so many that stand in one another, the deepest part on each side."""
    if deep == 1:
        return [("topic", "a"), ("from", 2)]
    flat = ("has", "x")
    found = []
    for inner in of_depth(deep - 1):
        found += [("not", inner), ("and", inner, flat), ("and", flat, inner), ("or", inner, flat), ("or", flat, inner),
                  ("and", inner, inner)]
    return found


def plainly_lets(sieve, message):
    number, topic, text = message
    word = sieve[0]
    parts = [plainly_lets(part, message) for part in sieve[1:] if isinstance(part, tuple)]
    return {"topic": lambda: topic == sieve[1], "starts": lambda: topic[:len(sieve[1])] == sieve[1],
            "has": lambda: text.find(sieve[1]) >= 0, "from": lambda: not number < sieve[1],
            "not": lambda: not parts[0], "and": lambda: all(parts), "or": lambda: any(parts)}[word]()


class IsSieve(unittest.TestCase):
    def test_each_of_the_seven_kinds(self):
        for sieve in PLAIN:
            self.assertIs(is_sieve(sieve), True, sieve)
            self.assertIs(is_sieve(("not", sieve)), True, sieve)
        for one, other in itertools.product(PLAIN, repeat=2):
            self.assertIs(is_sieve(("and", one, other)), True)
            self.assertIs(is_sieve(("or", one, other)), True)

    def test_every_topic_sign_and_number_of_messages(self):
        for sign in "abcdefghijklmnopqrstuvwxyz":
            for thing in (("topic", sign * 3), ("starts", sign * 2), ("has", sign * 8)):
                self.assertIs(is_sieve(thing), True)
        for number in (1, 2, 999998, 999999):
            self.assertIs(is_sieve(("from", number)), True)

    def test_up_to_four_in_one_another(self):
        for deep in (1, 2, 3, 4):
            for sieve in of_depth(deep):
                self.assertIs(is_sieve(sieve), True, sieve)

    def test_five_in_one_another_are_none(self):
        for thing in of_depth(5):
            self.assertIs(is_sieve(thing), False, thing)

    def test_more_than_five(self):
        for many in range(12):
            self.assertIs(is_sieve(nots(many, ("topic", "a"))), many <= 3)

    def test_depth_is_counted_on_the_deeper_side(self):
        four = nots(3, ("topic", "a"))
        three = nots(2, ("topic", "a"))
        for word in ("and", "or"):
            for one, other, fits in ((three, three, True), (four, three, False), (three, four, False),
                                     (four, ("topic", "a"), False), (("topic", "a"), four, False)):
                self.assertIs(is_sieve((word, one, other)), fits)

    def test_wide_ones(self):
        sieve = ("from", 7)
        for word in ("and", "or", "and"):
            sieve = (word, sieve, sieve)
        self.assertIs(is_sieve(sieve), True)
        self.assertIs(is_sieve(("or", sieve, sieve)), False)

    def test_things_that_are_none(self):
        for thing in NO_PLAIN + NO_TUPLES:
            self.assertIs(is_sieve(thing), False, thing)

    def test_a_thing_within_that_is_none(self):
        for thing in NO_PLAIN + NO_TUPLES:
            for whole in (("not", thing), ("and", thing, ("topic", "a")), ("and", ("topic", "a"), thing),
                          ("or", thing, ("topic", "a")), ("or", ("topic", "a"), thing), ("not", ("not", thing)),
                          ("not", ("not", ("not", thing))), ("or", ("topic", "a"), ("not", thing))):
                self.assertIs(is_sieve(whole), False, whole)

    def test_lists_in_the_place_of_tuples(self):
        for sieve in PLAIN:
            self.assertIs(is_sieve(list(sieve)), False)
            self.assertIs(is_sieve(("not", list(sieve))), False)


class Lets(unittest.TestCase):
    def check(self, sieve, numbers):
        for message in MESSAGES:
            self.assertIs(lets(sieve, message), message[0] in numbers, (sieve, message))
        self.assertEqual(sieved(MESSAGES, sieve), [message for message in MESSAGES if message[0] in numbers])

    def test_topic(self):
        self.check(("topic", "a"), (1, 6))
        self.check(("topic", "ab"), (2,))
        self.check(("topic", "abc"), (3, 999999))
        self.check(("topic", "q"), ())

    def test_starts(self):
        self.check(("starts", "a"), (1, 2, 3, 6, 999999))
        self.check(("starts", "ab"), (2, 3, 999999))
        self.check(("starts", "abc"), (3, 999999))
        self.check(("starts", "b"), (4, 5))
        self.check(("starts", "bc"), ())

    def test_has(self):
        self.check(("has", "x"), (2, 3, 4, 5, 6, 50, 999999))
        self.check(("has", "x\ny"), (4, 999999))
        self.check(("has", "xy"), (3,))
        self.check(("has", " "), (5,))
        self.check(("has", "\n"), (4, 999999))
        self.check(("has", "yx"), ())

    def test_from(self):
        self.check(("from", 1), (1, 2, 3, 4, 5, 6, 50, 999999))
        self.check(("from", 6), (6, 50, 999999))
        self.check(("from", 7), (50, 999999))
        self.check(("from", 999999), (999999,))

    def test_not(self):
        self.check(("not", ("topic", "a")), (2, 3, 4, 5, 50, 999999))
        self.check(("not", ("not", ("topic", "a"))), (1, 6))
        self.check(("not", ("from", 1)), ())

    def test_and(self):
        self.check(("and", ("starts", "a"), ("has", "x")), (2, 3, 6, 999999))
        self.check(("and", ("has", "x"), ("not", ("starts", "a"))), (4, 5, 50))
        self.check(("and", ("topic", "a"), ("topic", "b")), ())

    def test_or(self):
        self.check(("or", ("topic", "a"), ("topic", "b")), (1, 4, 6))
        self.check(("or", ("from", 50), ("topic", "abc")), (3, 50, 999999))
        self.check(("or", ("topic", "q"), ("topic", "r")), ())

    def test_beside_the_plain_reckoning(self):
        for deep in (1, 2, 3, 4):
            for sieve in of_depth(deep):
                for message in MESSAGES:
                    self.assertIs(lets(sieve, message), plainly_lets(sieve, message))

    def test_deeper_ones_are_not_refused(self):
        self.check(nots(4, ("topic", "a")), (1, 6))
        self.check(nots(5, ("topic", "a")), (2, 3, 4, 5, 50, 999999))


class Sieved(unittest.TestCase):
    def test_of_none(self):
        for sieve in PLAIN:
            self.assertEqual(sieved([], sieve), [])

    def test_in_their_order(self):
        for row in (MESSAGES, MESSAGES[::-1], MESSAGES[3:] + MESSAGES[:3]):
            self.assertEqual(sieved(row, ("starts", "a")), [message for message in row if message[1][0] == "a"])

    def test_one_that_is_there_twice(self):
        self.assertEqual(sieved([MESSAGES[0], MESSAGES[3], MESSAGES[0]], ("topic", "a")), [MESSAGES[0]] * 2)


class FirstApart(unittest.TestCase):
    def test_with_such_a_message(self):
        self.assertEqual(first_apart(("topic", "a"), ("starts", "a"), MESSAGES), MESSAGES[1])
        self.assertEqual(first_apart(("starts", "a"), ("topic", "a"), MESSAGES), MESSAGES[1])
        self.assertEqual(first_apart(("from", 6), ("from", 7), MESSAGES), MESSAGES[5])
        self.assertEqual(first_apart(("from", 1), ("not", ("from", 1)), MESSAGES), MESSAGES[0])
        self.assertEqual(first_apart(("has", "\n"), ("topic", "q"), MESSAGES), MESSAGES[3])

    def test_the_first_by_the_order_of_the_list(self):
        self.assertEqual(first_apart(("topic", "a"), ("starts", "a"), MESSAGES[::-1]), MESSAGES[-1])

    def test_without(self):
        self.assertIsNone(first_apart(("topic", "a"), ("starts", "a"), []))
        self.assertIsNone(first_apart(("topic", "a"), ("topic", "a"), MESSAGES))
        self.assertIsNone(first_apart(("topic", "a"), ("not", ("not", ("topic", "a"))), MESSAGES))
        self.assertIsNone(first_apart(("from", 7), ("from", 50), MESSAGES))
        self.assertIsNone(first_apart(("topic", "q"), ("topic", "r"), MESSAGES))

    def test_each_two(self):
        for one, other in itertools.product(PLAIN + of_depth(2), repeat=2):
            apart = [message for message in MESSAGES if plainly_lets(one, message) != plainly_lets(other, message)]
            self.assertEqual(first_apart(one, other, MESSAGES), (apart + [None])[0])


class Interface(unittest.TestCase):
    def test_names_and_arguments(self):
        for one, many in ((is_sieve, 1), (lets, 2), (sieved, 2), (first_apart, 3)):
            self.assertEqual(len(inspect.signature(one).parameters), many)


if __name__ == "__main__":
    unittest.main()
