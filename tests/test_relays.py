"""[6.1] and [6.2]: relays and sources."""

import inspect
import itertools
import unittest

from tellroads import relays
from tellroads.errors import NoNumber, Other, TellError
from tellroads.hearers import Hearer
from tellroads.relays import Relay, Sources, led_on

FIVE = [(1, "a", "x"), (2, "b", ""), (3, "a", "y"), (4, "c", "z"), (5, "a", "x")]
KEEPS = (0, 1, 2, 3, 5, 9)
TOPICS = (None, [], ["a"], ["c", "b"], ["d"])


def picked(*numbers):
    return [FIVE[number - 1] for number in numbers]


def take_all(hearer, row, given_up=0):
    for message in row:
        hearer.take(message)
    hearer.give_up(given_up)
    return hearer


def relay_of(keep, row, given_up=0):
    return take_all(Relay(keep), row, given_up)


def hearer_of(row, given_up=0):
    return take_all(Hearer(), row, given_up)


def all_told(relay):
    told = [relay.expects(), relay.kept()]
    for number in range(relay.expects()):
        for topics in TOPICS:
            told.append(relay.behind(number, topics))
    return told


class Refusals(unittest.TestCase):
    def refuses(self, refusal, call, *values):
        with self.subTest(str(values)):
            with self.assertRaises(TellError) as caught:
                call(*values)
            self.assertIs(type(caught.exception), refusal)


class Hearing(Refusals):
    def test_at_first_nothing_was_heard(self):
        for keep in KEEPS:
            relay = Relay(keep)
            self.assertEqual((relay.expects(), relay.kept(), relay.behind(0, None)), (1, [], ([], 0)))

    def test_as_a_hearer_does(self):
        steps = [("take", message) for message in FIVE[:4]] + [("take", (2, "q", "")), ("take", (4, "q", ""))]
        steps += [("give_up", number) for number in (0, 2, 3, 6)]
        for row in itertools.product(steps, repeat=4):
            hearer = Hearer()
            relay = Relay(1)
            for name, value in row:
                answers = []
                for one in (hearer, relay):
                    try:
                        answers.append(getattr(one, name)(value))
                    except Other:
                        answers.append("Other")
                self.assertEqual(answers[0], answers[1], row)
                self.assertEqual(hearer.expects(), relay.expects())
            self.assertEqual(relay.kept(), hearer.heard()[-1:])

    def test_early_late_and_twice(self):
        relay = Relay(2)
        self.assertEqual(relay.take(FIVE[2]), [])
        self.assertEqual(relay.take(FIVE[1]), [])
        self.assertEqual((relay.expects(), relay.kept()), (1, []))
        self.assertEqual(relay.take(FIVE[0]), FIVE[:3])
        self.assertEqual((relay.expects(), relay.kept()), (4, FIVE[1:3]))
        ahead = all_told(relay)
        for message in FIVE[:3]:
            self.assertEqual(relay.take(message), [])
            self.assertEqual(all_told(relay), ahead)

    def test_given_up(self):
        relay = relay_of(2, picked(2, 5))
        self.assertEqual(relay.give_up(4), picked(2))
        self.assertEqual((relay.expects(), relay.kept()), (4, picked(2)))
        self.assertEqual(relay.take(FIVE[3]), picked(4, 5))
        self.assertEqual(relay.kept(), picked(4, 5))
        self.assertEqual(relay.take(FIVE[0]), [])
        self.assertEqual(relay.give_up(6), [])

    def test_another_one_of_a_heard_or_held_number(self):
        for keep in KEEPS:
            relay = relay_of(keep, picked(1, 2, 4))
            ahead = all_told(relay)
            for other in ((1, "a", "y"), (2, "a", ""), (4, "c", "")):
                self.refuses(Other, relay.take, other)
                self.assertEqual(all_told(relay), ahead)
            self.assertEqual(relay.take(FIVE[2]), picked(3, 4))


class KeptAndBehind(Refusals):
    def test_kept(self):
        for keep in KEEPS:
            relay = Relay(keep)
            for many in range(1, 6):
                relay.take(FIVE[many - 1])
                self.assertEqual(relay.kept(), FIVE[max(0, many - keep):many])

    def test_the_last_ones_heard_and_not_the_last_numbers(self):
        self.assertEqual(relay_of(2, picked(1, 2, 5), 5).kept(), picked(2, 5))
        self.assertEqual(relay_of(2, picked(1, 2), 5).kept(), picked(1, 2))

    def test_held_ones_are_not_kept(self):
        self.assertEqual(relay_of(9, picked(1, 3, 5)).kept(), picked(1))

    def test_a_keep_somewhat_below_0_is_not_refused(self):
        relay = relay_of(-1, FIVE)
        self.assertEqual(relay.kept(), [])
        self.assertEqual(relay.behind(3, None), ([], 2))

    def test_behind_0(self):
        self.assertEqual(relay_of(9, FIVE).behind(0, None), (FIVE, 0))
        self.assertEqual(relay_of(2, FIVE).behind(0, None), (FIVE[3:], 3))
        self.assertEqual(relay_of(0, FIVE).behind(0, None), ([], 5))

    def test_behind_the_number_ahead_of_the_expected_one(self):
        for keep, topics in itertools.product(KEEPS, TOPICS):
            self.assertEqual(relay_of(keep, FIVE).behind(5, topics), ([], 0))
            self.assertEqual(relay_of(keep, FIVE[:2], 5).behind(4, topics), ([], 0))

    def test_topics(self):
        relay = relay_of(4, FIVE)
        self.assertEqual(relay.behind(0, ["a"]), (picked(3, 5), 1))
        self.assertEqual(relay.behind(3, ["c", "b"]), (picked(4), 0))
        self.assertEqual(relay.behind(0, []), ([], 1))
        self.assertEqual(relay.behind(0, ["d"]), ([], 1))
        self.assertEqual(relay.behind(2, None), (FIVE[2:], 0))

    def test_lost_numbers_are_not_kept(self):
        relay = relay_of(9, picked(1, 4), 6)
        self.assertEqual(relay.behind(0, None), (picked(1, 4), 3))
        self.assertEqual(relay.behind(1, None), (picked(4), 3))
        self.assertEqual(relay.behind(2, ["a"]), ([], 2))
        self.assertEqual(relay.behind(4, None), ([], 1))

    def test_every_relay_of_four_numbers(self):
        for keep in range(6):
            for bits in itertools.product((False, True), repeat=4):
                heard = [message for message, bit in zip(FIVE, bits) if bit]
                relay = relay_of(keep, heard, 5)
                kept = heard[max(0, len(heard) - keep):]
                self.assertEqual(relay.kept(), kept)
                for number, topics in itertools.product(range(5), TOPICS):
                    numbers = [one[0] for one in kept]
                    absent = [one for one in range(number + 1, 5) if one not in numbers]
                    found = [one for one in kept if one[0] > number and (topics is None or one[1] in topics)]
                    told = relay.behind(number, topics)
                    self.assertEqual(told, (found, len(absent)))
                    self.assertIs(type(told), tuple)
                    self.assertIs(type(told[0]), list)

    def test_numbers_that_are_refused(self):
        for keep, topics in itertools.product(KEEPS, TOPICS):
            for row, given_up in (([], 0), (FIVE, 0), (picked(1, 2, 4), 0), (picked(2), 4), (picked(5), 0)):
                relay = relay_of(keep, row, given_up)
                ahead = all_told(relay)
                for number in (-1, -2, relay.expects(), relay.expects() + 1, 10 ** 9):
                    with self.assertRaises(NoNumber):
                        relay.behind(number, topics)
                self.assertEqual(all_told(relay), ahead)
        self.refuses(NoNumber, relay_of(2, FIVE).behind, 6, None)
        self.refuses(NoNumber, relay_of(2, FIVE).behind, -1, [])


class LedOn(Refusals):
    def test_where_the_relay_keeps_all(self):
        relay = relay_of(9, FIVE)
        hearer = hearer_of(FIVE[:2])
        self.assertEqual(led_on(relay, hearer), FIVE[2:])
        self.assertEqual((hearer.expects(), hearer.heard(), hearer.lost()), (6, FIVE, []))
        self.assertEqual(led_on(relay, hearer), [])

    def test_where_the_relay_keeps_just_enough(self):
        hearer = hearer_of(FIVE[:3])
        self.assertEqual(led_on(relay_of(2, FIVE), hearer), FIVE[3:])
        self.assertEqual(hearer.lost(), [])

    def test_where_something_is_missing(self):
        hearer = hearer_of(FIVE[:2])
        self.assertEqual(led_on(relay_of(2, FIVE), hearer), FIVE[3:])
        self.assertEqual((hearer.expects(), hearer.heard(), hearer.lost()), (6, picked(1, 2, 4, 5), [3]))
        hearer = Hearer()
        self.assertEqual(led_on(relay_of(0, FIVE), hearer), [])
        self.assertEqual((hearer.expects(), hearer.lost()), (6, [1, 2, 3, 4, 5]))

    def test_where_the_relay_lost_something(self):
        hearer = hearer_of(FIVE[:1])
        self.assertEqual(led_on(relay_of(9, picked(1, 2, 4), 6), hearer), picked(2, 4))
        self.assertEqual((hearer.expects(), hearer.lost()), (6, [3, 5]))

    def test_messages_that_came_early_at_the_hearer(self):
        hearer = hearer_of(picked(3, 5))
        self.assertEqual(led_on(relay_of(1, FIVE[:4]), hearer), picked(3, 4, 5))
        self.assertEqual((hearer.expects(), hearer.lost()), (6, [1, 2]))
        hearer = hearer_of(picked(2))
        self.assertEqual(led_on(relay_of(9, picked(1, 3), 4), hearer), picked(1, 2, 3))
        self.assertEqual((hearer.expects(), hearer.lost()), (4, []))

    def test_where_the_relay_expects_the_same_or_less(self):
        for keep, many, far in itertools.product(KEEPS, range(6), range(6)):
            if many <= far:
                hearer = hearer_of(FIVE[:far])
                # Early ones at the relay say nothing of what it expects.
                relay = relay_of(keep, FIVE[:many] + FIVE[many + 1:])
                self.assertEqual(led_on(relay, hearer), [])
                self.assertEqual((hearer.expects(), hearer.heard(), hearer.lost()), (far + 1, FIVE[:far], []))

    def test_the_relay_stays_as_it_is(self):
        relay = relay_of(2, FIVE)
        ahead = all_told(relay)
        led_on(relay, Hearer())
        self.assertEqual(all_told(relay), ahead)

    def test_a_relay_of_a_relay(self):
        first = relay_of(3, FIVE)
        second = relay_of(1, FIVE[:1])
        self.assertEqual(led_on(first, second), FIVE[2:])
        self.assertEqual((second.expects(), second.kept()), (6, FIVE[4:]))
        self.assertEqual(second.behind(0, None), (FIVE[4:], 4))
        hearer = hearer_of(FIVE[:1])
        self.assertEqual(led_on(second, hearer), FIVE[4:])
        self.assertEqual(hearer.lost(), [2, 3, 4])
        self.assertEqual(led_on(first, hearer), [])
        self.assertEqual(led_on(first, first), [])

    def test_what_a_relay_tells_is_taken_by_another(self):
        first = relay_of(9, FIVE)
        second = Relay(2)
        for message in first.behind(0, None)[0]:
            self.assertEqual(second.take(message), [message])
        self.assertEqual(second.kept(), FIVE[3:])

    def test_behind_a_refusal_all_is_as_ahead_of_it(self):
        hearer = hearer_of([(5, "q", "")])
        self.refuses(Other, led_on, relay_of(2, FIVE), hearer)
        self.assertEqual((hearer.expects(), hearer.heard(), hearer.early(), hearer.lost()), (1, [], [5], []))


def sources_of(*rows):
    sources = Sources()
    for source, row in rows:
        for message in row:
            sources.take(source, message)
    return sources


def told_of(source, row):
    return [(source,) + message for message in row]


class SourcesHeard(Refusals):
    def test_at_first_nothing_came(self):
        self.assertEqual((Sources().heard(), Sources().marks(), Sources().lacks({})), ([], {}, []))

    def test_beside_one_another(self):
        sources = Sources()
        for message in FIVE[:3]:
            for source in ("q", "p", ""):
                self.assertEqual(sources.take(source, message), 1)
        asked = [(source,) + message for message in FIVE[:3] for source in ("q", "p", "")]
        self.assertEqual(sources.heard(), asked)
        self.assertEqual(sources.marks(), {"q": 3, "p": 3, "": 3})

    def test_unlike_messages_of_one_number_from_several_sources(self):
        sources = Sources()
        self.assertEqual(sources.take("p", (1, "a", "x")), 1)
        self.assertEqual(sources.take("q", (1, "b", "y")), 1)
        self.assertEqual(sources.heard(), [("p", 1, "a", "x"), ("q", 1, "b", "y")])

    def test_early_and_late_ones(self):
        sources = Sources()
        self.assertEqual(sources.take("p", FIVE[1]), 0)
        self.assertEqual(sources.take("p", FIVE[2]), 0)
        self.assertEqual(sources.take("q", FIVE[0]), 1)
        self.assertEqual(sources.take("p", FIVE[0]), 3)
        self.assertEqual(sources.take("p", FIVE[1]), 0)
        self.assertEqual(sources.take("p", FIVE[3]), 1)
        self.assertEqual(sources.heard(), told_of("q", FIVE[:1]) + told_of("p", FIVE[:4]))

    def test_the_same_message_twice(self):
        sources = sources_of(("p", picked(1, 3)))
        for message in picked(1, 3):
            self.assertEqual(sources.take("p", message), 0)
        self.assertEqual((sources.heard(), sources.marks()), (told_of("p", FIVE[:1]), {"p": 1}))

    def test_another_one_of_a_heard_or_held_number(self):
        sources = sources_of(("p", picked(1, 3)), ("q", picked(2)))
        heard = sources.heard()
        for source, other in (("p", (1, "a", "q")), ("p", (3, "b", "y")), ("q", (2, "b", "x"))):
            self.refuses(Other, sources.take, source, other)
            self.assertEqual((sources.heard(), sources.marks()), (heard, {"p": 1, "q": 0}))
        self.assertEqual(sources.take("p", FIVE[1]), 2)

    def test_a_list_of_tuples_is_told(self):
        told = sources_of(("p", FIVE)).heard()
        self.assertIs(type(told), list)
        self.assertEqual({type(one) for one in told}, {tuple})


class Marks(unittest.TestCase):
    def test_none(self):
        self.assertEqual(Sources().marks(), {})

    def test_only_early_ones_came(self):
        self.assertEqual(sources_of(("p", picked(2, 5)), ("q", picked(1, 2, 4))).marks(), {"p": 0, "q": 2})

    def test_as_far_as_they_are_heard(self):
        sources = Sources()
        for number in (3, 1, 2, 5, 4):
            sources.take("p", FIVE[number - 1])
            self.assertEqual(sources.marks(), {"p": {3: 0, 1: 1, 2: 3, 5: 3, 4: 5}[number]})


class Lacks(unittest.TestCase):
    def setUp(self):
        self.sources = sources_of(("q", FIVE[:3]), ("p", FIVE[:2]), ("r", picked(2)))

    def test_sources_of_which_nothing_came(self):
        self.assertEqual(self.sources.lacks({"z": 1, "s": 9, "": 2}), [("", 0), ("s", 0), ("z", 0)])
        self.assertEqual(Sources().lacks({"p": 1}), [("p", 0)])
        self.assertEqual(self.sources.marks(), {"q": 3, "p": 2, "r": 0})

    def test_0(self):
        self.assertEqual(self.sources.lacks({"z": 0, "r": 0, "p": 0}), [])

    def test_less_the_same_and_more(self):
        self.assertEqual(self.sources.lacks({"p": 1, "q": 1}), [])
        self.assertEqual(self.sources.lacks({"p": 2, "q": 3}), [])
        self.assertEqual(self.sources.lacks({"q": 4, "p": 3}), [("p", 2), ("q", 3)])
        self.assertEqual(self.sources.lacks({"r": 1, "q": 9, "p": 2}), [("q", 3), ("r", 0)])

    def test_no_marks(self):
        self.assertEqual(self.sources.lacks({}), [])

    def test_its_own_marks_and_those_of_others(self):
        self.assertEqual(self.sources.lacks(self.sources.marks()), [])
        other = sources_of(("p", FIVE), ("q", FIVE[:3]), ("s", FIVE[:1]), ("t", picked(2)))
        self.assertEqual(self.sources.lacks(other.marks()), [("p", 2), ("s", 0)])
        self.assertEqual(other.lacks(self.sources.marks()), [])


class Interface(unittest.TestCase):
    def test_names_and_arguments(self):
        self.assertEqual(len(inspect.signature(Relay).parameters), 1)
        self.assertEqual(len(inspect.signature(Sources).parameters), 0)
        self.assertEqual(len(inspect.signature(relays.led_on).parameters), 2)
        rows = ((Relay(1), (("take", 1), ("give_up", 1), ("expects", 0), ("kept", 0), ("behind", 2))),
                (Sources(), (("take", 2), ("heard", 0), ("marks", 0), ("lacks", 1))))
        for thing, methods in rows:
            for name, many in methods:
                with self.subTest(name):
                    self.assertEqual(len(inspect.signature(getattr(thing, name)).parameters), many)


if __name__ == "__main__":
    unittest.main()
