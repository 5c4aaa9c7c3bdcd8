"""[0.1] and [0.2] (a) to (i): the parts of the program beside and behind one another."""

import itertools
import unittest

from tellroads.errors import TellError
from tellroads.fans import Fan
from tellroads.gathering import common, lacking, put_together
from tellroads.hearers import Hearer, caught_up
from tellroads.journals import Journal
from tellroads.journaltexts import journal_text, read_journal
from tellroads.messages import gaps_in, is_message, last_ones, of_topics, state_of
from tellroads.relays import Relay, Sources, led_on
from tellroads.roads import Road
from tellroads.sieves import lets, sieved
from tellroads.streams import Reader, read, stream_text
from tellroads.tellers import Teller
from tellroads.tries import Caller, moments
from tellroads.windows import Window

TELLINGS = [("a", "x"), ("b", "y\nz"), ("a", ""), ("abc", " "), ("b", "\n"), ("a", "x"), ("c", "on"), ("b", "")]
MESSAGES = [(place + 1, topic, text) for place, (topic, text) in enumerate(TELLINGS)]
KEEPS = (0, 1, 3, 20)


def teller_of(keep, tellings):
    teller = Teller(keep)
    for topic, text in tellings:
        teller.tell(topic, text)
    return teller


def pieces_of(text, length):
    return [text[start:start + length] for start in range(0, len(text), length)]


def by_stream(messages, length):
    """The messages, written and read by pieces of this length."""
    reader = Reader()
    found = []
    for piece in pieces_of(stream_text(messages), length):
        found += reader.feed(piece)
    return found


class AfterACut(unittest.TestCase):
    """(a), by what is written and read."""

    def test_whoever_has_a_state_and_a_mark(self):
        for keep, cut, length in itertools.product(KEEPS, range(len(TELLINGS) + 1), (1, 5, 1000)):
            teller = teller_of(keep, TELLINGS[:cut])
            state = state_of(MESSAGES[:cut])
            mark = teller.mark()
            for topic, text in TELLINGS[cut:]:
                teller.tell(topic, text)
            word, messages = teller.since(mark, None)
            state.update(state_of(by_stream(messages, length)))
            self.assertEqual(state, state_of(MESSAGES))
            self.assertEqual(state, state_of(teller.last()))

    def test_begun_anew(self):
        for keep, cut in itertools.product(KEEPS, range(len(TELLINGS) + 1)):
            teller = teller_of(keep, TELLINGS[:cut])
            mark = teller.mark()
            teller.anew()
            for topic, text in TELLINGS[:3]:
                teller.tell(topic, text)
            word, messages = teller.since(mark, None)
            self.assertEqual((word, state_of(by_stream(messages, 3))), ("anew", state_of(MESSAGES[:3])))

    def test_a_journal_of_what_is_told_then(self):
        for keep, cut in itertools.product(KEEPS, range(len(TELLINGS) + 1)):
            teller = teller_of(keep, TELLINGS)
            journal = Journal()
            for number, topic, text in MESSAGES[:cut] + teller.since((0, cut), None)[1]:
                journal.write(topic, text)
            self.assertEqual(state_of(journal.last()), state_of(MESSAGES))


class HeardOnce(unittest.TestCase):
    """(b) to (d), (g): whatever a road or a stream leaves out, or brings twice."""

    def check(self, hearer, told):
        numbers = [message[0] for message in hearer.heard()]
        self.assertEqual(numbers, sorted(set(numbers)))
        self.assertEqual(sorted(numbers + hearer.lost()), list(range(1, hearer.expects())))
        self.assertLessEqual(hearer.expects(), told + 1)

    def test_by_streams_of_which_some_never_come(self):
        for gone in itertools.product((False, True), repeat=len(MESSAGES)):
            came = [message for message, lost in zip(MESSAGES, gone) if not lost]
            hearer = Hearer()
            hearer.take_all(by_stream(came, 7))
            self.check(hearer, len(MESSAGES))
            numbers = [0] + [message[0] for message in came]
            missing = [number for first, last in gaps_in(numbers) for number in range(first, last + 1)]
            self.assertEqual(hearer.missing(), missing)
            told = caught_up(teller_of(20, TELLINGS), hearer)
            self.assertEqual(told[1], 0)
            self.assertEqual(hearer.heard(), MESSAGES)

    def test_by_a_window_that_sends_again(self):
        for room, lost in itertools.product((1, 2, 3, 20), range(2 ** 5)):
            window = Window(room)
            hearer = Hearer()
            sent = []
            turn = 0
            for message in MESSAGES:
                sent += window.put(message)
            while window.came() < len(MESSAGES):
                self.assertLessEqual(len(window.again()), room)
                # Some of what is on the way comes; all of it goes again until the hearer is behind it.
                came = [message for message in window.again() if (lost >> (turn + message[0]) % 5) % 2 == 0]
                hearer.take_all(by_stream(came if turn < 9 else window.again(), 4))
                on_way = [message[0] for message in window.again()]
                if hearer.expects() - 1 in on_way:
                    sent += window.done(hearer.expects() - 1)
                turn += 1
            self.assertEqual((hearer.heard(), sent), (MESSAGES, MESSAGES))

    def test_by_a_caller_that_tries_again(self):
        for good in itertools.product((False, True), repeat=4):
            plan = (2, 3, 7, 3)
            caller = Caller(plan, 5)
            hearer = Hearer()
            teller = teller_of(2, TELLINGS)
            tried = []
            for well in good + (True,):
                now = caller.tries_at()
                if now is None:
                    break
                tried.append(now)
                if well:
                    caught_up(teller, hearer)
                    caller.went_well(now)
                else:
                    caller.failed(now)
            self.assertEqual(tried, sorted(tried))
            if True not in good[:3]:
                self.assertEqual((tried, hearer.heard()), (moments(plan, 5), []))
            else:
                self.assertEqual((hearer.heard(), hearer.lost()), (MESSAGES[6:], [1, 2, 3, 4, 5, 6]))

    def test_by_roads(self):
        for size, way, many in itertools.product((1, 3, 20), ("old", "new", "cut"), (0, 1, 2)):
            road = Road(size, way)
            hearer = Hearer()
            for message in MESSAGES:
                road.put(message)
                hearer.take_all(by_stream(road.take(many), 6))
                self.check(hearer, message[0])
            came = [message[0] for message in hearer.heard()] + hearer.early()
            waiting = [message[0] for message in road.waiting()]
            self.assertEqual(sorted(came + waiting + road.left_out()), list(range(1, 9)))


class ManyHearers(unittest.TestCase):
    """(d), (e), (h): what several have heard, put together."""

    def test_a_fan(self):
        for keep, many in itertools.product(KEEPS, (0, 1, 3)):
            fan = Fan(keep)
            for name, size, way in (("p", 1, "cut"), ("q", 2, "old"), ("r", 2, "new")):
                fan.lay(name, size, way)
            for topic, text in TELLINGS:
                fan.tell(topic, text)
                for name in fan.names():
                    fan.carry(name, many)
            for name in fan.names():
                fan.catch_up(name)
                self.assertEqual(fan.lag(name), 0)
            self.assertEqual(fan.slowest(), ["p", "q", "r"])
            rows = [fan.heard(name) for name in fan.names()]
            together = put_together(rows)
            self.assertEqual(together, [message for message in MESSAGES if any(message in row for row in rows)])
            for name, row, numbers in zip(fan.names(), rows, lacking(rows)):
                self.assertTrue(set(numbers) <= set(fan.lost(name)))
                self.assertTrue(all(message in row for message in common(rows)))

    def test_relays_behind_one_another(self):
        for keep, length in itertools.product((1, 3, 20), (1, 9)):
            teller = teller_of(20, TELLINGS)
            first = Relay(20)
            second = Relay(keep)
            hearer = Hearer()
            for message in by_stream(teller.behind(0, None)[0], length):
                first.take(message)
            self.assertEqual(led_on(first, second), MESSAGES)
            heard = led_on(second, hearer)
            self.assertEqual(heard, MESSAGES[max(0, 8 - keep):])
            self.assertEqual(heard, second.kept())
            self.assertEqual(sorted([message[0] for message in heard] + hearer.lost()), list(range(1, 9)))

    def test_sources_beside_one_another(self):
        sources = Sources()
        for message in by_stream(MESSAGES, 8):
            sources.take("one", message)
        for message in by_stream(MESSAGES[1:4] + MESSAGES[:1], 8):
            sources.take("two", message)
        self.assertEqual(sources.marks(), {"one": 8, "two": 4})
        self.assertEqual(sources.lacks({"one": 8, "two": 8, "three": 1}), [("three", 0), ("two", 4)])
        rows = [[told[1:] for told in sources.heard() if told[0] == source] for source in ("one", "two")]
        self.assertEqual((put_together(rows), common(rows)), (MESSAGES, MESSAGES[:4]))
        self.assertEqual(lacking(rows), [[], [5, 6, 7, 8]])


class KeptInJournals(unittest.TestCase):
    """(f), (h), (i)"""

    def journal(self):
        journal = Journal()
        for topic, text in TELLINGS:
            journal.write(topic, text)
        return journal

    def test_a_journal_and_a_teller_tell_the_same(self):
        teller = teller_of(3, TELLINGS)
        journal = self.journal()
        journal.trim(5)
        self.assertEqual(journal.kept(), teller.kept())
        self.assertEqual(journal.last(), teller.last())
        self.assertEqual(journal.told(), teller.told())
        self.assertEqual(journal.state_at(8), state_of(teller.last()))

    def test_texts_are_made_of_streams(self):
        for number in range(9):
            journal = self.journal()
            journal.trim(number)
            text = journal_text(journal)
            front = f"trim: {number}\n\n"
            middle = text.index("\non\n\n") + 1
            self.assertEqual(text[:len(front)], front)
            self.assertEqual(read(text[len(front):middle]), last_ones(MESSAGES[:number]))
            self.assertEqual(read(text[middle + 4:]), MESSAGES[number:])
            other = read_journal(text)
            self.assertEqual((other.kept(), other.last()), (journal.kept(), journal.last()))

    def test_what_a_sieve_lets_and_what_it_does_not(self):
        for sieve in (("topic", "a"), ("starts", "a"), ("has", "x"), ("from", 4), ("not", ("topic", "b")),
                      ("and", ("starts", "a"), ("or", ("from", 3), ("not", ("has", "x"))))):
            rows = [sieved(self.journal().kept(), sieve), sieved(self.journal().kept(), ("not", sieve))]
            self.assertEqual(by_stream(put_together([by_stream(row, 5) for row in rows]), 11), MESSAGES)
            self.assertEqual(common(rows), [])
            self.assertTrue(all(lets(sieve, message) for message in rows[0]))
        self.assertEqual(sieved(MESSAGES, ("topic", "a")), of_topics(MESSAGES, ["a"]))

    def test_heard_from_a_journal_that_was_read(self):
        journal = read_journal(journal_text(self.journal()))
        hearer = Hearer()
        self.assertEqual(hearer.take_all(journal.kept()), MESSAGES)
        self.assertEqual(hearer.state(), journal.state_at(8))
        journal.write("q", "q")
        self.assertEqual(hearer.take_all(journal.kept()), [(9, "q", "q")])

    def test_all_told_messages_are_messages(self):
        journal = self.journal()
        for row in (journal.kept(), journal.last(), teller_of(2, TELLINGS).last(), by_stream(MESSAGES, 3)):
            self.assertTrue(all(is_message(message) for message in row))


class EachRefusalIsATellError(unittest.TestCase):
    def test_of_each_part(self):
        hearer = Hearer()
        hearer.take(MESSAGES[0])
        sources = Sources()
        sources.take("p", MESSAGES[0])
        fan = Fan(1)
        fan.lay("p", 1, "old")
        for call, handed in (
            (Teller(1).behind, (1, None)), (Teller(1).since, ((1, 0), None)), (hearer.take, ((1, "q", ""),)),
            (fan.lay, ("p", 1, "new")), (fan.close, ("q",)), (Relay(1).behind, (1, None)),
            (sources.take, ("p", (1, "q", ""))), (Reader().feed, ("x\n\n",)), (read, ("x",)), (Window(1).done, (1,)),
            (Caller((1, 1, 1, 1), 5).failed, (4,)), (Caller((1, 1, 1, 1), 5).went_well, (4,)),
            (put_together, ([[(1, "a", "")], [(1, "b", "")]],)), (lacking, ([[(1, "a", "")], [(1, "b", "")]],)),
            (common, ([[(1, "a", "")], [(1, "b", "")]],)), (Journal().trim, (1,)), (Journal().state_at, (1,)),
            (Journal().back, ()), (Journal().forth, ()), (read_journal, ("",)),
        ):
            with self.assertRaises(TellError) as caught:
                call(*handed)
            self.assertIsInstance(caught.exception, ValueError)
            self.assertIsNot(type(caught.exception), TellError)


if __name__ == "__main__":
    unittest.main()
