"""[2.1] and [2.2]: tellers."""

import inspect
import itertools
import unittest

from tellroads.errors import NoNumber
from tellroads.messages import is_message
from tellroads.tellers import Teller

FIVE = [(1, "a", "x"), (2, "b", ""), (3, "a", "y"), (4, "c", "z"), (5, "a", "x")]
KEEPS = (0, 1, 2, 3, 4, 5, 6, 100)
TOPICS = (None, [], ["a"], ["b"], ["c", "a"], ["d"], ["a", "b", "c"])


def teller_of(row, keep):
    teller = Teller(keep)
    for message in row:
        teller.tell(message[1], message[2])
    return teller


def chosen(row, topics):
    return [message for message in row if topics is None or message[1] in topics]


def newest_of(row):
    return [message for place, message in enumerate(row)
            if message[1] not in [later[1] for later in row[place + 1:]]]


class Refusals(unittest.TestCase):
    def refuses(self, call, *values):
        with self.subTest(str(values)):
            with self.assertRaises(NoNumber) as caught:
                call(*values)
            self.assertIs(type(caught.exception), NoNumber)


class Telling(Refusals):
    def test_at_first_nothing_was_told(self):
        for keep in KEEPS:
            teller = Teller(keep)
            self.assertEqual(teller.told(), 0)
            self.assertEqual(teller.kept(), [])
            self.assertEqual(teller.oldest(), 1)
            self.assertEqual(teller.last(), [])
            self.assertEqual(teller.behind(0, None), ([], 0))

    def test_numbers_go_on_from_1(self):
        for keep in KEEPS:
            teller = Teller(keep)
            self.assertEqual([teller.tell(one[1], one[2]) for one in FIVE], [1, 2, 3, 4, 5])
            self.assertEqual(teller.told(), 5)

    def test_kept_are_messages(self):
        for message in teller_of(FIVE, 5).kept():
            self.assertTrue(is_message(message))

    def test_keep_of_0(self):
        teller = teller_of(FIVE, 0)
        self.assertEqual(teller.kept(), [])
        self.assertEqual(teller.oldest(), 6)
        self.assertEqual(teller.behind(0, None), ([], 5))
        self.assertEqual(teller.behind(5, None), ([], 0))

    def test_fewer_told_than_kept(self):
        teller = teller_of(FIVE, 6)
        self.assertEqual(teller.kept(), FIVE)
        self.assertEqual(teller.oldest(), 1)

    def test_just_as_many_told_as_kept(self):
        teller = teller_of(FIVE, 5)
        self.assertEqual(teller.kept(), FIVE)
        self.assertEqual(teller.oldest(), 1)

    def test_more_told_than_kept(self):
        teller = teller_of(FIVE, 2)
        self.assertEqual(teller.kept(), [(4, "c", "z"), (5, "a", "x")])
        self.assertEqual(teller.oldest(), 4)

    def test_kept_and_oldest_behind_each_telling(self):
        for keep in KEEPS:
            teller = Teller(keep)
            for many in range(1, 6):
                teller.tell(FIVE[many - 1][1], FIVE[many - 1][2])
                row = FIVE[max(0, many - keep):many]
                self.assertEqual(teller.kept(), row)
                self.assertEqual(teller.oldest(), row[0][0] if row else many + 1)
                self.assertEqual(teller.told(), many)

    def test_last_ones_are_told_whether_kept_or_not(self):
        for keep in KEEPS:
            self.assertEqual(teller_of(FIVE, keep).last(), [(2, "b", ""), (4, "c", "z"), (5, "a", "x")])
            for many in range(6):
                self.assertEqual(teller_of(FIVE[:many], keep).last(), newest_of(FIVE[:many]))

    def test_a_keep_somewhat_below_0_is_not_refused(self):
        teller = teller_of(FIVE, -1)
        self.assertEqual(teller.kept(), [])
        self.assertEqual(teller.oldest(), 6)
        self.assertEqual(teller.behind(2, None), ([], 3))

    def test_topics_and_texts_somewhat_beyond_their_bounds_are_not_refused(self):
        teller = Teller(1)
        self.assertEqual(teller.tell("", "abcdefghi"), 1)
        self.assertEqual(teller.kept(), [(1, "", "abcdefghi")])
        self.assertEqual(teller.tell("abcd", ""), 2)
        self.assertEqual(teller.last(), [(1, "", "abcdefghi"), (2, "abcd", "")])


class Behind(Refusals):
    def test_all_are_kept(self):
        teller = teller_of(FIVE, 9)
        self.assertEqual(teller.behind(0, None), (FIVE, 0))
        self.assertEqual(teller.behind(3, None), (FIVE[3:], 0))

    def test_behind_the_last_one(self):
        for keep in KEEPS:
            for topics in TOPICS:
                self.assertEqual(teller_of(FIVE, keep).behind(5, topics), ([], 0))

    def test_behind_one_that_is_not_kept(self):
        teller = teller_of(FIVE, 2)
        self.assertEqual(teller.behind(0, None), (FIVE[3:], 3))
        self.assertEqual(teller.behind(1, None), (FIVE[3:], 2))
        self.assertEqual(teller.behind(2, None), (FIVE[3:], 1))
        self.assertEqual(teller.behind(3, None), (FIVE[3:], 0))
        self.assertEqual(teller.behind(4, None), (FIVE[4:], 0))

    def test_topics(self):
        teller = teller_of(FIVE, 3)
        self.assertEqual(teller.behind(1, ["a"]), ([(3, "a", "y"), (5, "a", "x")], 1))
        self.assertEqual(teller.behind(1, ["c", "b"]), ([(4, "c", "z")], 1))
        self.assertEqual(teller.behind(1, []), ([], 1))

    def test_those_not_kept_are_counted_of_whatever_topic(self):
        for topics in TOPICS:
            self.assertEqual(teller_of(FIVE, 2).behind(0, topics)[1], 3)
            self.assertEqual(teller_of(FIVE, 0).behind(1, topics)[1], 4)

    def test_every_number_and_keep(self):
        for keep, many, topics in itertools.product(KEEPS, range(6), TOPICS):
            teller = teller_of(FIVE[:many], keep)
            for number in range(many + 1):
                kept = FIVE[max(0, many - keep):many]
                greater = [one for one in kept if one[0] > number]
                told = teller.behind(number, topics)
                self.assertEqual(told, (chosen(greater, topics), many - number - len(greater)))
                self.assertIs(type(told), tuple)
                self.assertIs(type(told[0]), list)

    def test_a_number_below_0(self):
        for keep, many, topics in itertools.product(KEEPS, (0, 1, 5), TOPICS):
            teller = teller_of(FIVE[:many], keep)
            for number in (-1, -2, -many - 1, -10 ** 5000):
                with self.assertRaises(NoNumber):
                    teller.behind(number, topics)

    def test_more_than_were_told(self):
        for keep, many, topics in itertools.product(KEEPS, range(6), TOPICS):
            teller = teller_of(FIVE[:many], keep)
            for number in (many + 1, many + 2, 10 ** 5000):
                with self.assertRaises(NoNumber):
                    teller.behind(number, topics)

    def test_the_refusal_by_its_class(self):
        self.refuses(teller_of(FIVE, 2).behind, -1, None)
        self.refuses(teller_of(FIVE, 2).behind, 6, [])


class Anew(Refusals):
    def test_nothing_was_told(self):
        for keep in KEEPS:
            teller = teller_of(FIVE, keep)
            self.assertIsNone(teller.anew())
            self.assertEqual(teller.told(), 0)
            self.assertEqual(teller.kept(), [])
            self.assertEqual(teller.oldest(), 1)
            self.assertEqual(teller.last(), [])
            self.assertEqual(teller.behind(0, None), ([], 0))
            self.refuses(teller.behind, 1, None)
            self.refuses(teller.behind, -1, None)

    def test_numbers_begin_at_1(self):
        teller = teller_of(FIVE, 2)
        teller.anew()
        self.assertEqual([teller.tell("d", "x"), teller.tell("a", ""), teller.tell("d", "y")], [1, 2, 3])
        self.assertEqual(teller.kept(), [(2, "a", ""), (3, "d", "y")])
        self.assertEqual(teller.oldest(), 2)
        self.assertEqual(teller.last(), [(2, "a", ""), (3, "d", "y")])
        self.assertEqual(teller.behind(0, ["d"]), ([(3, "d", "y")], 1))
        self.refuses(teller.behind, 4, None)

    def test_marks(self):
        teller = Teller(1)
        self.assertEqual(teller.mark(), (0, 0))
        teller.tell("a", "")
        self.assertEqual(teller.mark(), (0, 1))
        teller.tell("a", "")
        self.assertEqual(teller.mark(), (0, 2))
        teller.anew()
        self.assertEqual(teller.mark(), (1, 0))
        teller.anew()
        self.assertEqual(teller.mark(), (2, 0))
        teller.tell("a", "")
        self.assertEqual(teller.mark(), (2, 1))
        self.assertIs(type(teller.mark()), tuple)


class Since(Refusals):
    """Each test holds for a teller's first turn and for later ones."""

    def tellers(self, row, keep):
        for turn in range(3):
            teller = Teller(keep)
            for _ in range(turn):
                teller.tell("b", "old")
                teller.tell("q", "old")
                teller.anew()
            for message in row:
                teller.tell(message[1], message[2])
            yield turn, teller

    def test_on(self):
        for turn, teller in self.tellers(FIVE, 3):
            self.assertEqual(teller.since((turn, 2), None), ("on", FIVE[2:]))
            self.assertEqual(teller.since((turn, 3), None), ("on", FIVE[3:]))
            self.assertEqual(teller.since((turn, 2), ["a"]), ("on", [(3, "a", "y"), (5, "a", "x")]))
            self.assertEqual(teller.since((turn, 2), ["b"]), ("on", []))
            self.assertEqual(teller.since((turn, 2), []), ("on", []))

    def test_gap(self):
        for turn, teller in self.tellers(FIVE, 3):
            self.assertEqual(teller.since((turn, 1), None), ("gap", [(2, "b", ""), (4, "c", "z"), (5, "a", "x")]))
            self.assertEqual(teller.since((turn, 0), ["a", "b"]), ("gap", [(2, "b", ""), (5, "a", "x")]))
            self.assertEqual(teller.since((turn, 0), []), ("gap", []))

    def test_gap_tells_greater_numbers_alone(self):
        for turn, teller in self.tellers(FIVE, 1):
            self.assertEqual(teller.since((turn, 2), None), ("gap", [(4, "c", "z"), (5, "a", "x")]))
            self.assertEqual(teller.since((turn, 2), ["b"]), ("gap", []))

    def test_it_is_a_gap_whatever_topic_is_not_kept(self):
        for turn, teller in self.tellers([(1, "a", ""), (2, "b", "")], 1):
            self.assertEqual(teller.since((turn, 0), ["b"]), ("gap", [(2, "b", "")]))

    def test_a_mark_of_now(self):
        for keep, many, topics in itertools.product(KEEPS, range(6), TOPICS):
            for turn, teller in self.tellers(FIVE[:many], keep):
                self.assertEqual(teller.mark(), (turn, many))
                self.assertEqual(teller.since(teller.mark(), topics), ("on", []))

    def test_every_number_of_this_turn(self):
        for keep, many, topics in itertools.product(KEEPS, range(6), TOPICS):
            row = FIVE[:many]
            for turn, teller in self.tellers(row, keep):
                for number in range(many + 1):
                    if many - number <= keep:
                        asked = ("on", chosen(row[number:], topics))
                    else:
                        asked = ("gap", [one for one in chosen(newest_of(row), topics) if one[0] > number])
                    told = teller.since((turn, number), topics)
                    self.assertEqual(told, asked)
                    self.assertIs(type(told), tuple)
                    self.assertIs(type(told[1]), list)

    def test_a_mark_of_an_earlier_turn(self):
        for keep, many, topics in itertools.product(KEEPS, range(6), TOPICS):
            row = FIVE[:many]
            for turn, teller in self.tellers(row, keep):
                for earlier in range(turn):
                    for number in (0, 1, 2, 3, many, many + 1, 100, 10 ** 5000):
                        told = teller.since((earlier, number), topics)
                        self.assertEqual(told, ("anew", chosen(newest_of(row), topics)))
                        self.assertIs(type(told[1]), list)

    def test_a_turn_somewhat_below_0_is_not_refused(self):
        for turn, teller in self.tellers(FIVE, 2):
            self.assertEqual(teller.since((-1, 9), ["c"]), ("anew", [(4, "c", "z")]))

    def test_a_greater_turn(self):
        for keep in KEEPS:
            for turn, teller in self.tellers(FIVE, keep):
                for later in (turn + 1, turn + 2, 10 ** 5000):
                    for number in (-1, 0, 1, 5, 6):
                        with self.assertRaises(NoNumber):
                            teller.since((later, number), None)

    def test_a_greater_number_of_the_same_turn(self):
        for keep, many in itertools.product(KEEPS, range(6)):
            for turn, teller in self.tellers(FIVE[:many], keep):
                for number in (many + 1, many + 2, 10 ** 5000):
                    with self.assertRaises(NoNumber):
                        teller.since((turn, number), ["a"])

    def test_a_number_below_0_in_whatever_turn(self):
        for keep in KEEPS:
            for now, teller in self.tellers(FIVE, keep):
                for turn in range(now + 2):
                    for number in (-1, -2, -10 ** 5000):
                        with self.assertRaises(NoNumber):
                            teller.since((turn, number), None)

    def test_the_refusals_by_their_class(self):
        for turn, teller in self.tellers(FIVE, 2):
            self.refuses(teller.since, (turn + 1, 0), None)
            self.refuses(teller.since, (turn, 6), None)
            self.refuses(teller.since, (turn, -1), None)
            self.refuses(teller.since, (0, -1), [])


class Interface(unittest.TestCase):
    def test_names_and_arguments(self):
        teller = Teller(1)
        self.assertEqual(len(inspect.signature(Teller).parameters), 1)
        for name, many in (("tell", 2), ("told", 0), ("kept", 0), ("oldest", 0), ("last", 0), ("behind", 2),
                           ("mark", 0), ("anew", 0), ("since", 2)):
            with self.subTest(name):
                self.assertEqual(len(inspect.signature(getattr(teller, name)).parameters), many)


if __name__ == "__main__":
    unittest.main()
