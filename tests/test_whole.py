"""[0.2] (a) and [0.3], as far as they speak of tellers."""

import itertools
import unittest

from tellroads.errors import NoNumber
from tellroads.messages import state_of
from tellroads.tellers import Teller

KEEPS = (0, 1, 2, 3, 9)


def do(teller, row, step):
    """One step of a history, done by the teller and by a plain list of all that it told this turn."""
    if step == "anew":
        teller.anew()
        row.clear()
    else:
        text = "abcdefgh"[len(row)]
        row.append((teller.tell(step, text), step, text))


def put_over(state, told):
    # What was known of an earlier turn is gone when the teller began anew.
    word, messages = told
    known = {} if word == "anew" else dict(state)
    known.update(state_of(messages))
    return known


def part_of(state, topics):
    return {topic: state[topic] for topic in state if topic in topics}


def all_told(teller):
    """Everything that the teller tells now, asked in every way that it does not refuse."""
    turn, many = teller.mark()
    answers = [teller.told(), teller.kept(), teller.oldest(), teller.last(), teller.mark()]
    for topics in (None, [], ["a"], ["a", "b", "c"]):
        for number in range(many + 1):
            answers.append(teller.behind(number, topics))
        for earlier in range(turn + 1):
            for number in range(many + 1):
                answers.append(teller.since((earlier, number), topics))
    return answers


def some_tellers():
    for keep in KEEPS:
        for steps in ([], ["a"], ["a", "b", "a", "c"], ["b", "anew"], ["a", "a", "anew", "b", "a", "c", "b"]):
            teller = Teller(keep)
            row = []
            for step in steps:
                do(teller, row, step)
            yield teller


class StateOfNow(unittest.TestCase):
    def check_history(self, keep, steps):
        teller = Teller(keep)
        row = []
        moments = [(teller.mark(), {})]
        for step in steps:
            do(teller, row, step)
            moments.append((teller.mark(), state_of(row)))
        now = state_of(row)
        self.assertEqual(state_of(teller.last()), now)
        for mark, state in moments:
            self.assertEqual(put_over(state, teller.since(mark, None)), now, (keep, steps, mark))
            for topics in ([], ["a"], ["a", "c"]):
                told = teller.since(mark, topics)
                self.assertEqual(put_over(part_of(state, topics), told), part_of(now, topics), (keep, steps, mark))

    def test_every_short_history(self):
        for keep in KEEPS:
            for length in range(6):
                for steps in itertools.product(("a", "b", "c", "anew"), repeat=length):
                    self.check_history(keep, steps)

    def test_a_long_history(self):
        steps = ["a", "b", "c", "a", "a", "b", "a", "a", "anew", "c", "a", "a", "b", "a", "a", "a", "a"]
        for keep in range(10):
            for many in range(len(steps) + 1):
                self.check_history(keep, steps[:many])

    def test_the_words_are_those_of_the_cases(self):
        words = []
        for keep in (0, 2, 9):
            teller = Teller(keep)
            row = []
            for step in ("a", "b", "a", "c"):
                do(teller, row, step)
            words.append([teller.since((0, number), None)[0] for number in range(5)])
        self.assertEqual(words, [["gap"] * 4 + ["on"], ["gap"] * 2 + ["on"] * 3, ["on"] * 5])


class ToldAndHandedIn(unittest.TestCase):
    def spoil(self, told):
        for part in told if isinstance(told, tuple) else (told,):
            if isinstance(part, list):
                part.append((9, "z", "spoilt"))
                part[0] = None
                part.reverse()

    def test_a_told_list_that_is_changed_changes_nothing_told_later(self):
        for teller in some_tellers():
            turn, many = teller.mark()
            asks = [teller.kept, teller.last]
            for topics in (None, [], ["a", "b", "c"]):
                asks.extend([lambda n=n, t=topics: teller.behind(n, t) for n in range(many + 1)])
                asks.extend([lambda n=n, t=topics: teller.since((turn, n), t) for n in range(many + 1)])
                asks.extend([lambda e=e, t=topics: teller.since((e, 0), t) for e in range(turn)])
            ahead = all_told(teller)
            for ask in asks:
                self.spoil(ask())
                self.assertEqual(all_told(teller), ahead)
                self.assertEqual(ask(), ask())

    def test_what_was_told_stays_when_more_is_told(self):
        for anew in (False, True):
            teller = Teller(2)
            for topic in ("a", "b", "a"):
                teller.tell(topic, "x")
            told = [teller.kept(), teller.last(), teller.behind(0, None), teller.since((0, 2), None), teller.mark()]
            copies = [[(2, "b", "x"), (3, "a", "x")], [(2, "b", "x"), (3, "a", "x")],
                      ([(2, "b", "x"), (3, "a", "x")], 1), ("on", [(3, "a", "x")]), (0, 3)]
            self.assertEqual(told, copies)
            if anew:
                teller.anew()
            teller.tell("b", "y")
            self.assertEqual(told, copies)

    def test_what_is_handed_in_is_not_changed_and_may_be_changed_then(self):
        for teller in some_tellers():
            topics = ["b", "a"]
            mark = (0, 0)
            behind = teller.behind(0, topics)
            since = teller.since(mark, topics)
            self.assertEqual(topics, ["b", "a"])
            self.assertEqual(mark, (0, 0))
            ahead = all_told(teller)
            topics.clear()
            topics.append("c")
            self.assertEqual(all_told(teller), ahead)
            self.assertEqual(teller.behind(0, ["b", "a"]), behind)
            self.assertEqual(teller.since((0, 0), ["b", "a"]), since)

    def test_marks_are_equal_where_their_parts_are(self):
        teller = Teller(1)
        other = Teller(5)
        for one in (teller, other):
            one.anew()
            one.tell("a", "x")
        self.assertEqual(teller.mark(), other.mark())
        self.assertEqual(teller.since(other.mark(), None), ("on", []))

    def test_tellers_share_nothing(self):
        teller = Teller(3)
        other = Teller(3)
        teller.tell("a", "x")
        teller.anew()
        teller.tell("b", "y")
        self.assertEqual(other.mark(), (0, 0))
        self.assertEqual(other.kept(), [])
        self.assertEqual(other.last(), [])


class Refused(unittest.TestCase):
    def test_behind_a_refusal_all_is_told_as_ahead_of_it(self):
        for teller in some_tellers():
            turn, many = teller.mark()
            ahead = all_told(teller)
            for topics in (None, [], ["a"]):
                for number in (-1, many + 1, many + 5):
                    with self.assertRaises(NoNumber):
                        teller.behind(number, topics)
                    self.assertEqual(all_told(teller), ahead)
                for mark in ((turn + 1, 0), (turn + 1, -1), (turn, many + 1), (turn, -1), (0, -1)):
                    with self.assertRaises(NoNumber):
                        teller.since(mark, topics)
                    self.assertEqual(all_told(teller), ahead)
            self.assertEqual(teller.tell("a", "x"), many + 1)
            self.assertEqual(teller.mark(), (turn, many + 1))


if __name__ == "__main__":
    unittest.main()
