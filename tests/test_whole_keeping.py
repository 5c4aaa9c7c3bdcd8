"""[0.2] (h) and (i) and [0.3], as far as they speak of sieves, lists put together, journals and their texts."""

import itertools
import unittest

from tellroads.errors import NoNumber, NoText, Other, TellError
from tellroads.gathering import common, lacking, put_together
from tellroads.journals import Journal
from tellroads.journaltexts import journal_text, read_journal
from tellroads.messages import is_message, last_ones, state_of
from tellroads.sieves import first_apart, is_sieve, lets, sieved

FIVE = [(1, "a", "x"), (2, "b", ""), (3, "ab", "x\ny"), (4, "c", "z"), (9, "a", "x")]
PLAIN = [("topic", "a"), ("starts", "a"), ("has", "x"), ("from", 3), ("has", "\n"), ("from", 999999)]
STEPS = [("write", ("a", "x")), ("write", ("b", "y")), ("trim", (1,)), ("trim", (2,)), ("back", ()), ("forth", ())]


def sieves():
    found = list(PLAIN)
    for word, one, other in itertools.product(("and", "or"), PLAIN, PLAIN):
        found.append((word, one, other))
        found.append((word, ("not", one), (word, other, one)))
    return found


def do(thing, step):
    try:
        return getattr(thing, step[0])(*step[1])
    except TellError as refusal:
        return type(refusal).__name__


def journal_told(journal):
    trimmed = journal.told() - len(journal.kept())
    states = [journal.state_at(number) for number in range(trimmed, journal.told() + 1)]
    return (journal.told(), journal.kept(), journal.last(), states, journal.counts(), journal_text(journal))


def journal_by(steps):
    journal = Journal()
    for step in steps:
        do(journal, step)
    return journal


class SievesAndTheirOpposites(unittest.TestCase):
    """(h): what a sieve lets, and what its opposite lets, are all."""

    def test_of_each_sieve(self):
        for sieve in sieves():
            self.assertIs(is_sieve(sieve), True)
            opposite = ("not", sieve)
            self.assertIs(is_sieve(opposite), True)
            first = sieved(FIVE, sieve)
            second = sieved(FIVE, opposite)
            self.assertEqual(put_together([first, second]), FIVE)
            self.assertEqual(common([first, second]), [])
            for message in FIVE:
                self.assertIs(lets(sieve, message), not lets(opposite, message))
            self.assertEqual(first_apart(sieve, opposite, FIVE), FIVE[0])
            self.assertIsNone(first_apart(sieve, ("not", opposite), FIVE))

    def test_both_and_either(self):
        for one, other in itertools.product(PLAIN, repeat=2):
            rows = [sieved(FIVE, one), sieved(FIVE, other)]
            self.assertEqual(sieved(FIVE, ("and", one, other)), common(rows))
            self.assertEqual(sieved(FIVE, ("or", one, other)), put_together(rows))
            either = ("not", ("and", ("not", one), ("not", other)))
            self.assertIsNone(first_apart(("or", one, other), either, FIVE))


class PutTogether(unittest.TestCase):
    """(h): no message is lost, none is there twice."""

    def test_every_three_lists(self):
        choices = [list(row) for many in range(4) for row in itertools.combinations(FIVE[1:4], many)]
        for rows in itertools.product(choices, repeat=3):
            rows = list(rows)
            together = put_together(rows)
            self.assertEqual(together, sorted(set(together)))
            self.assertEqual(set(together), {message for row in rows for message in row})
            for row, numbers in zip(rows, lacking(rows)):
                self.assertEqual(sorted([message[0] for message in row] + numbers), [message[0] for message in together])
                self.assertTrue(all(message in row for message in common(rows)))
            self.assertEqual(put_together([together] + rows), together)
            self.assertEqual(put_together(rows[::-1]), together)


class Trimmed(unittest.TestCase):
    """(i): a journal has the same state."""

    def test_at_every_number(self):
        for topics in itertools.product("abc", repeat=4):
            journal = Journal()
            row = [(journal.write(topic, "wxyz"[place]), topic, "wxyz"[place]) for place, topic in enumerate(topics)]
            for number in range(5):
                ahead = [journal.state_at(later) for later in range(number, 5)]
                journal.trim(number)
                self.assertEqual([journal.state_at(later) for later in range(number, 5)], ahead)
                self.assertEqual(journal.state_at(4), state_of(row))
                self.assertEqual(journal.last(), last_ones(row))
                self.assertEqual(state_of(journal.last()), state_of(row))


class StepByStep(unittest.TestCase):
    """(i): journals go back and forth."""

    def test_every_short_history(self):
        for steps in itertools.product(STEPS, repeat=4):
            journal = journal_by(steps)
            told = [journal_told(journal)]
            words = []
            while journal.counts()[0] > 0:
                words.append(journal.back())
                told.append(journal_told(journal))
            self.assertEqual((journal.told(), journal.kept(), journal.last()), (0, [], []))
            for place in range(len(words) - 1, -1, -1):
                self.assertEqual(journal.forth(), words[place])
                self.assertEqual(journal_told(journal), told[place])


class TextsReadBack(unittest.TestCase):
    """(i)"""

    def test_every_short_history(self):
        for steps in itertools.product(STEPS, repeat=5):
            journal = journal_by(steps)
            other = read_journal(journal_text(journal))
            self.assertEqual(journal_told(other)[:4], journal_told(journal)[:4])
            self.assertEqual(journal_text(other), journal_text(journal))
            self.assertEqual(other.counts(), (0, 0))

    def test_nothing_else_is_read(self):
        lines = ("trim: 0", "trim: 1", "", "on", "id: 1", "id: 2", "topic: a", "data: ")
        good = 0
        for many in range(6):
            for row in itertools.product(lines, repeat=many):
                good += self.reads("".join([line + "\n" for line in row]))
        # With so few lines there is but the journal with nothing.
        self.assertEqual(good, 1)
        for row in itertools.permutations(["trim: 1", "", "id: 1", "topic: a", "data: ", "", "on", ""]):
            good += self.reads("".join([line + "\n" for line in row]))
        # The three empty lines may stand for one another.
        self.assertEqual(good, 1 + 6)

    def reads(self, text):
        try:
            journal = read_journal(text)
        except NoText:
            return 0
        self.assertEqual(journal_text(journal), text)
        return 1


def spoil(told):
    if isinstance(told, list):
        for part in told:
            spoil(part)
        told.append("spoilt")
        told.reverse()
    if isinstance(told, dict):
        told["q"] = "spoilt"


class WhatIsTold(unittest.TestCase):
    """[0.3]: told lists and dicts are new ones each time."""

    def test_journals(self):
        for steps in itertools.product(STEPS, repeat=4):
            journal = journal_by(steps)
            ahead = journal_told(journal)
            for told in (journal.kept(), journal.last(), journal.state_at(journal.told())):
                spoil(told)
                self.assertEqual(journal_told(journal), ahead)
            for told in journal_told(journal):
                spoil(told)
            self.assertEqual(journal_told(journal), ahead)

    def test_journals_that_were_read(self):
        for steps in itertools.product(STEPS, repeat=3):
            text = journal_text(journal_by(steps))
            journal = read_journal(text)
            for told in journal_told(journal):
                spoil(told)
            self.assertEqual(journal_text(journal), text)

    def test_functions(self):
        rows = [FIVE[:3], FIVE[1:]]
        for make in (lambda: sieved(FIVE, ("has", "x")), lambda: sieved(FIVE, ("from", 1)), lambda: put_together(rows),
                     lambda: put_together([FIVE]), lambda: lacking(rows), lambda: lacking([FIVE]),
                     lambda: common(rows), lambda: common([FIVE])):
            ahead = make()
            spoil(make())
            self.assertEqual(make(), ahead)
        self.assertEqual(rows, [FIVE[:3], FIVE[1:]])
        self.assertEqual(len(FIVE), 5)

    def test_what_was_told_stays_when_more_is_done(self):
        journal = journal_by(STEPS[:3])
        told = journal_told(journal)
        journal.write("c", "")
        journal.trim(3)
        self.assertEqual(told[:4], (2, [(2, "b", "y")], [(1, "a", "x"), (2, "b", "y")],
                                    [{"a": "x"}, {"a": "x", "b": "y"}]))

    def test_journals_do_not_hang_on_one_another(self):
        for steps in itertools.product(STEPS, repeat=3):
            journal = journal_by(steps)
            twin = journal.twin()
            other = read_journal(journal_text(journal))
            ahead = (journal_told(twin), journal_told(other), journal_told(Journal()))
            for step in STEPS:
                do(journal, step)
            self.assertEqual((journal_told(twin), journal_told(other), journal_told(Journal())), ahead)
            then = journal_told(journal)
            for step in STEPS:
                do(twin, step)
                do(other, step)
            self.assertEqual(journal_told(journal), then)


class WhatIsHandedIn(unittest.TestCase):
    """[0.3]: it is not changed, and whoever handed it in may change it then."""

    def test_lists_that_are_put_together(self):
        for one in (put_together, lacking, common):
            rows = [FIVE[2:], [], FIVE[:3], FIVE[2:]]
            told = one(rows)
            self.assertEqual(rows, [FIVE[2:], [], FIVE[:3], FIVE[2:]])
            copy = list(told)
            for row in rows:
                row.clear()
            rows.clear()
            self.assertEqual(told, copy)

    def test_refused_lists(self):
        for one in (put_together, lacking, common):
            rows = [FIVE[:3], [(3, "q", "")]]
            with self.assertRaises(Other):
                one(rows)
            self.assertEqual(rows, [FIVE[:3], [(3, "q", "")]])

    def test_messages_that_are_sieved(self):
        handed = list(FIVE)
        told = sieved(handed, ("from", 1))
        self.assertEqual(first_apart(("topic", "a"), ("topic", "b"), handed), FIVE[0])
        self.assertEqual(handed, FIVE)
        handed.clear()
        self.assertEqual(told, FIVE)

    def test_things_of_which_is_asked(self):
        thing = ["topic", ["a", [None, True, (1, "x", [2])]]]
        for one in (is_sieve, is_message):
            self.assertIs(one(thing), False)
            self.assertIs(one(("not", thing)), False)
            self.assertIs(one((1, "a", thing)), False)
        self.assertEqual(thing, ["topic", ["a", [None, True, (1, "x", [2])]]])


class AnyThing(unittest.TestCase):
    """[0.3]: is_message and is_sieve take any thing."""

    LEAVES = (0, 1, -1, 999999, 1000000, True, False, None, "", "a", "abcd", "topic", "not", "and", "x" * 9, [], ())

    def test_leaves_and_what_is_made_of_them(self):
        for leaf in self.LEAVES:
            self.assertIs(is_message(leaf), False)
            self.assertIs(is_sieve(leaf), False)
        for many in (1, 2, 3, 4):
            leaves = self.LEAVES if many < 4 else (1, "a", "topic", "not", None)
            for parts in itertools.product(leaves, repeat=many):
                self.assertIs(is_message(list(parts)), False)
                self.assertIs(is_sieve(list(parts)), False)
                self.assertIn(is_message(parts), (True, False))
                self.assertIs(is_sieve(parts), many == 2 and parts[0] == "topic" and parts[1] in ("a", "not", "and"))

    def test_some_ten_deep(self):
        for leaf in self.LEAVES:
            for make in (lambda thing: (thing,), lambda thing: [thing], lambda thing: ("not", thing),
                         lambda thing: (1, "a", thing), lambda thing: ("and", thing, thing),
                         lambda thing: (thing, thing)):
                thing = leaf
                for turn in range(12):
                    thing = make(thing)
                    self.assertIs(type(is_message(thing)), bool)
                    self.assertIs(is_sieve(thing), False)


class WhatIsRefused(unittest.TestCase):
    """[0.3]: it changes nothing, neither what is told then nor what comes of what is done then."""

    def test_journals(self):
        for steps in itertools.product(STEPS, repeat=4):
            journal = journal_by(steps)
            other = journal_by(steps)
            trimmed = journal.told() - len(journal.kept())
            refused = [(name, (number,)) for name in ("trim", "state_at")
                       for number in (-1, trimmed - 1, journal.told() + 1, journal.told() + 9)]
            refused += [("back", ())] if journal.counts()[0] == 0 else []
            refused += [("forth", ())] if journal.counts()[1] == 0 else []
            ahead = journal_told(journal)
            for step in refused:
                self.assertEqual(do(journal, step), NoNumber.__name__)
                self.assertEqual(journal_told(journal), ahead)
            for step in STEPS[::-1]:
                self.assertEqual(do(journal, step), do(other, step))
            self.assertEqual(journal_told(journal), journal_told(other))

    def test_a_refused_text_makes_nothing(self):
        text = journal_text(journal_by(STEPS[:4]))
        for bad in ("", text + "\n", text[:-1], ":\n" + text):
            with self.assertRaises(NoText):
                read_journal(bad)
            self.assertEqual(journal_text(read_journal(text)), text)


if __name__ == "__main__":
    unittest.main()
