"""[12.1] and [12.2]: journals."""

import inspect
import itertools
import unittest

from tellroads.errors import NoNumber
from tellroads.journals import Journal
from tellroads.messages import last_ones, state_of

WRITES = [("a", "x"), ("b", ""), ("a", "y"), ("c", "z"), ("b", "x")]
FIVE = [(1, "a", "x"), (2, "b", ""), (3, "a", "y"), (4, "c", "z"), (5, "b", "x")]


def journal_of(many, trimmed=None):
    journal = Journal()
    for topic, text in WRITES[:many]:
        journal.write(topic, text)
    if trimmed is not None:
        journal.trim(trimmed)
    return journal


def trimmed_to(journal):
    return journal.told() - len(journal.kept())


def all_told(journal):
    states = [journal.state_at(number) for number in range(trimmed_to(journal), journal.told() + 1)]
    return (journal.told(), journal.kept(), journal.last(), journal.counts(), states)


class Model:
    """All that were told, and the number trimmed to, as they were behind each step."""

    def __init__(self):
        self.states = [("", (), 0)]
        self.place = 0

    def now(self):
        return self.states[self.place]

    def step(self, name, *handed):
        word, row, trimmed = self.now()
        if name == "back" and self.place > 0:
            self.place -= 1
            return word
        if name == "forth" and self.place < len(self.states) - 1:
            self.place += 1
            return self.now()[0]
        if name in ("back", "forth") or (name == "trim" and not trimmed <= handed[0] <= len(row)):
            return NoNumber
        if name == "write":
            told = len(row) + 1
            state = ("write", row + ((told,) + handed,), trimmed)
        else:
            told = handed[0] - trimmed
            state = ("trim", row, handed[0])
        self.states = self.states[:self.place + 1] + [state]
        self.place += 1
        return told

    def all_told(self):
        word, row, trimmed = self.now()
        states = [state_of(list(row[:number])) for number in range(trimmed, len(row) + 1)]
        counts = (self.place, len(self.states) - 1 - self.place)
        return (len(row), list(row[trimmed:]), last_ones(list(row)), counts, states)


def do(thing, step):
    try:
        return getattr(thing, step[0])(*step[1:])
    except NoNumber:
        return NoNumber


class Refusing(unittest.TestCase):
    def refuse(self, call, *handed):
        with self.assertRaises(NoNumber) as caught:
            call(*handed)
        self.assertIs(type(caught.exception), NoNumber)


class Writing(Refusing):
    def test_nothing_written(self):
        journal = Journal()
        self.assertEqual(all_told(journal), (0, [], [], (0, 0), [{}]))

    def test_several_topics(self):
        journal = Journal()
        for many, write in enumerate(WRITES, start=1):
            self.assertEqual(journal.write(*write), many)
            self.assertEqual(journal.told(), many)
            self.assertEqual(journal.kept(), FIVE[:many])
            self.assertEqual(journal.last(), last_ones(FIVE[:many]))
        self.assertEqual(journal.last(), [FIVE[2], FIVE[3], FIVE[4]])

    def test_state_at_each_number(self):
        journal = journal_of(5)
        self.assertEqual([journal.state_at(number) for number in range(6)],
                         [{}, {"a": "x"}, {"a": "x", "b": ""}, {"a": "y", "b": ""}, {"a": "y", "b": "", "c": "z"},
                          {"a": "y", "b": "x", "c": "z"}])

    def test_bounds_somewhat_passed_are_not_refused(self):
        journal = Journal()
        self.assertEqual(journal.write("abcd", "abcdefghi"), 1)
        self.assertEqual(journal.kept(), [(1, "abcd", "abcdefghi")])


class Trimming(Refusing):
    def test_trimmed_to_each_number(self):
        for many, number in itertools.product(range(6), range(6)):
            if number > many:
                continue
            journal = journal_of(many)
            self.assertEqual(journal.trim(number), number)
            self.assertEqual(journal.told(), many)
            self.assertEqual(journal.kept(), FIVE[number:many])
            self.assertEqual(journal.last(), last_ones(FIVE[:many]))

    def test_of_0(self):
        for journal in (Journal(), journal_of(3)):
            kept = journal.kept()
            self.assertEqual(journal.trim(0), 0)
            self.assertEqual(journal.trim(0), 0)
            self.assertEqual(journal.kept(), kept)

    def test_again_and_on(self):
        journal = journal_of(5)
        self.assertEqual([journal.trim(2), journal.trim(2), journal.trim(3), journal.trim(5), journal.trim(5)],
                         [2, 0, 1, 2, 0])
        self.assertEqual(journal.kept(), [])
        self.assertEqual(journal.last(), [FIVE[2], FIVE[3], FIVE[4]])

    def test_of_all_and_written_on(self):
        journal = journal_of(3, 3)
        self.assertEqual(journal.write("c", "z"), 4)
        self.assertEqual(journal.write("b", "x"), 5)
        self.assertEqual(journal.kept(), FIVE[3:])
        self.assertEqual(journal.last(), FIVE[2:])
        self.assertEqual(journal.trim(4), 1)
        self.assertEqual(journal.kept(), FIVE[4:])

    def test_less_than_it_was_trimmed_to(self):
        for number in (2, 3, 5):
            journal = journal_of(5, number)
            ahead = all_told(journal)
            for less in range(-1, number):
                self.refuse(journal.trim, less)
                self.assertEqual(all_told(journal), ahead)

    def test_below_0(self):
        journal = journal_of(2)
        self.refuse(journal.trim, -1)
        self.refuse(journal.state_at, -1)

    def test_more_than_were_told(self):
        for many in range(6):
            for journal in (journal_of(many), journal_of(many, many // 2), journal_of(many, many)):
                ahead = all_told(journal)
                for more in (many + 1, many + 2, 1000000):
                    self.refuse(journal.trim, more)
                    self.assertEqual(all_told(journal), ahead)

    def test_state_at_from_the_last_trim_on(self):
        for many, trimmed in itertools.product(range(6), range(6)):
            if trimmed > many:
                continue
            journal = journal_of(many, trimmed)
            for number in range(-1, 8):
                if trimmed <= number <= many:
                    self.assertEqual(journal.state_at(number), state_of(FIVE[:number]))
                else:
                    self.refuse(journal.state_at, number)

    def test_state_at_0_behind_a_trim(self):
        self.assertEqual(journal_of(3, 0).state_at(0), {})
        self.refuse(journal_of(3, 1).state_at, 0)

    def test_behind_two_trims_the_last_counts(self):
        journal = journal_of(5, 2)
        journal.trim(4)
        for number in (1, 2, 3):
            self.refuse(journal.state_at, number)
            self.refuse(journal.trim, number)
        self.assertEqual(journal.state_at(4), {"a": "y", "b": "", "c": "z"})


class BackAndForth(Refusing):
    def test_of_write(self):
        journal = journal_of(3)
        ahead = all_told(journal_of(2))
        self.assertEqual(journal.back(), "write")
        self.assertEqual(all_told(journal), ahead[:3] + ((2, 1),) + ahead[4:])
        self.assertEqual(journal.forth(), "write")
        self.assertEqual(all_told(journal), all_told(journal_of(3)))

    def test_of_trim(self):
        journal = journal_of(4, 1)
        journal.trim(3)
        self.assertEqual(journal.counts(), (6, 0))
        self.assertEqual(journal.back(), "trim")
        self.assertEqual((journal.kept(), journal.counts()), (FIVE[1:4], (5, 1)))
        self.assertEqual(journal.state_at(1), {"a": "x"})
        self.assertEqual(journal.back(), "trim")
        self.assertEqual((journal.kept(), journal.counts()), (FIVE[:4], (4, 2)))
        self.assertEqual(journal.state_at(0), {})
        self.assertEqual(journal.forth(), "trim")
        self.assertEqual(journal.kept(), FIVE[1:4])
        self.refuse(journal.state_at, 0)
        self.assertEqual(journal.forth(), "trim")
        self.assertEqual(journal.kept(), FIVE[3:4])
        self.refuse(journal.trim, 2)
        self.assertEqual(journal.counts(), (6, 0))

    def test_of_a_trim_that_changed_nothing(self):
        journal = journal_of(2, 0)
        journal.trim(1)
        journal.trim(1)
        self.assertEqual(journal.counts(), (5, 0))
        self.assertEqual([journal.back(), journal.kept()], ["trim", FIVE[1:2]])
        self.assertEqual([journal.back(), journal.kept()], ["trim", FIVE[:2]])
        self.assertEqual([journal.back(), journal.kept()], ["trim", FIVE[:2]])
        self.assertEqual([journal.back(), journal.kept()], ["write", FIVE[:1]])
        self.assertEqual([journal.forth() for turn in range(4)], ["write", "trim", "trim", "trim"])
        self.assertEqual((journal.kept(), journal.counts()), (FIVE[1:2], (5, 0)))

    def test_all_the_way(self):
        journal = Journal()
        steps = [("write", "a", "x"), ("write", "b", ""), ("trim", 1), ("write", "a", "y"), ("trim", 3),
                 ("write", "c", "z"), ("trim", 3)]
        told = [all_told(journal)]
        for step in steps:
            do(journal, step)
            told.append(all_told(journal))
        for place in range(len(steps) - 1, -1, -1):
            self.assertEqual(journal.back(), steps[place][0])
            self.assertEqual(journal.counts(), (place, len(steps) - place))
            self.assertEqual(all_told(journal)[:3], told[place][:3])
            self.assertEqual(all_told(journal)[4:], told[place][4:])
        for place, step in enumerate(steps, start=1):
            self.assertEqual(journal.forth(), step[0])
            self.assertEqual(all_told(journal)[:3], told[place][:3])
        self.assertEqual(all_told(journal), told[-1])

    def test_nothing_to_take_back(self):
        for many in range(3):
            journal = journal_of(many)
            for turn in range(many):
                journal.back()
            ahead = all_told(journal)
            self.refuse(journal.back)
            self.assertEqual(all_told(journal), ahead)
            self.assertEqual(journal.counts(), (0, many))
            self.assertEqual([journal.forth() for turn in range(many)], ["write"] * many)

    def test_nothing_taken_back(self):
        for journal in (Journal(), journal_of(2), journal_of(2, 1)):
            ahead = all_told(journal)
            self.refuse(journal.forth)
            self.assertEqual(all_told(journal), ahead)

    def test_all_done_again(self):
        journal = journal_of(2)
        journal.back()
        journal.forth()
        self.refuse(journal.forth)
        self.assertEqual(journal.counts(), (2, 0))

    def test_a_write_or_a_trim_behind_back(self):
        for step in (("write", "q", "q"), ("trim", 1), ("trim", 0)):
            journal = journal_of(3)
            journal.back()
            journal.back()
            do(journal, step)
            self.assertEqual(journal.counts(), (2, 0))
            self.refuse(journal.forth)
            self.assertEqual(journal.back(), step[0])
            self.assertEqual((journal.kept(), journal.counts()), (FIVE[:1], (1, 1)))
            self.assertEqual(journal.forth(), step[0])

    def test_another_message_of_a_number_that_was_taken_back(self):
        journal = journal_of(3)
        journal.back()
        self.assertEqual(journal.write("q", "q"), 3)
        self.assertEqual(journal.kept(), FIVE[:2] + [(3, "q", "q")])
        self.assertEqual(journal.last(), FIVE[:2] + [(3, "q", "q")])
        self.assertEqual(journal.state_at(3), {"a": "x", "b": "", "q": "q"})

    def test_a_refused_trim_behind_back(self):
        for number in (-1, 2, 3, 9):
            journal = journal_of(3)
            journal.back()
            journal.back()
            ahead = all_told(journal)
            self.refuse(journal.trim, number)
            self.assertEqual(all_told(journal), ahead)
            self.assertEqual(journal.counts(), (1, 2))
            self.assertEqual([journal.forth(), journal.forth()], ["write", "write"])
            self.assertEqual(journal.kept(), FIVE[:3])

    def test_what_is_asked_leaves_what_can_be_done_again(self):
        journal = journal_of(3, 1)
        journal.back()
        journal.back()
        all_told(journal)
        journal.twin()
        self.assertEqual(journal.counts(), (2, 2))


class Twins(Refusing):
    def journal(self):
        journal = journal_of(4, 2)
        journal.write("q", "q")
        journal.trim(3)
        journal.back()
        journal.back()
        return journal

    def test_as_the_other(self):
        for journal in (Journal(), journal_of(3), journal_of(3, 2), self.journal()):
            twin = journal.twin()
            self.assertIsInstance(twin, Journal)
            self.assertEqual(all_told(twin), all_told(journal))

    def test_in_what_it_can_take_back_and_do_again(self):
        twin = self.journal().twin()
        self.assertEqual(twin.counts(), (5, 2))
        self.assertEqual([twin.forth(), twin.forth()], ["write", "trim"])
        self.assertEqual(twin.kept(), [FIVE[3], (5, "q", "q")])
        self.assertEqual([twin.back() for turn in range(7)], ["trim", "write", "trim"] + ["write"] * 4)
        self.assertEqual(twin.counts(), (0, 7))

    def test_from_then_on_each_goes_by_itself(self):
        steps = [("write", "z", "z"), ("trim", 4), ("back",), ("forth",)]
        for first, second in itertools.product(steps, repeat=2):
            journal = self.journal()
            twin = journal.twin()
            ahead = all_told(journal)
            do(twin, first)
            do(twin, second)
            self.assertEqual(all_told(journal), ahead)
            twin = journal.twin()
            do(journal, first)
            do(journal, second)
            self.assertEqual(all_told(twin), ahead)
            other = self.journal()
            do(other, first)
            do(other, second)
            self.assertEqual(all_told(journal), all_told(other))

    def test_a_twin_of_a_twin(self):
        journal = self.journal()
        twin = journal.twin()
        third = twin.twin()
        ahead = all_told(journal)
        self.assertEqual(all_told(third), ahead)
        third.back()
        self.assertEqual((all_told(journal), all_told(twin)), (ahead, ahead))
        twin.write("z", "z")
        self.assertEqual(all_told(journal), ahead)
        self.assertEqual(third.counts(), (4, 3))
        self.assertEqual(twin.counts(), (6, 0))
        self.assertEqual(journal.twin().twin().twin().forth(), "write")
        self.assertEqual(all_told(journal), ahead)


class EveryShortHistory(unittest.TestCase):
    STEPS = [("write", "a", "x"), ("write", "b", "y"), ("trim", 0), ("trim", 1), ("trim", 2), ("back",), ("forth",)]

    def test_beside_the_model(self):
        for steps in itertools.product(self.STEPS, repeat=5):
            journal = Journal()
            model = Model()
            for step in steps:
                self.assertEqual(do(journal, step), model.step(*step))
            self.assertEqual(all_told(journal), model.all_told(), steps)

    def test_longer_ones_by_twins(self):
        steps = self.STEPS * 3 + [("trim", 3), ("back",), ("back",), ("forth",), ("write", "c", ""), ("trim", 4)] * 3
        for start in range(len(steps)):
            journal = Journal()
            model = Model()
            for step in steps[start:] + steps[:start]:
                self.assertEqual(do(journal, step), model.step(*step))
                self.assertEqual(all_told(journal), model.all_told())
                journal = journal.twin()


class Interface(unittest.TestCase):
    def test_names_and_arguments(self):
        journal = Journal()
        self.assertEqual(len(inspect.signature(Journal).parameters), 0)
        for name, many in (("write", 2), ("told", 0), ("trim", 1), ("kept", 0), ("last", 0), ("state_at", 1),
                           ("back", 0), ("forth", 0), ("counts", 0), ("twin", 0)):
            with self.subTest(name):
                self.assertEqual(len(inspect.signature(getattr(journal, name)).parameters), many)

    def test_kinds(self):
        journal = journal_of(2)
        self.assertIs(type(journal.kept()), list)
        self.assertIs(type(journal.last()), list)
        self.assertIs(type(journal.state_at(1)), dict)
        self.assertIs(type(journal.counts()), tuple)


if __name__ == "__main__":
    unittest.main()
