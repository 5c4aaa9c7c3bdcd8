"""[13.1]: journals as texts."""

import inspect
import itertools
import unittest

from tellroads.errors import NoNumber, NoText
from tellroads.journals import Journal
from tellroads.journaltexts import journal_text, read_journal

WRITES = [("a", "x"), ("b", "on"), ("a", "on\n\non"), ("abc", ""), ("b", " z\n")]
FRAMES = [
    "id: 1\ntopic: a\ndata: x\n\n",
    "id: 2\ntopic: b\ndata: on\n\n",
    "id: 3\ntopic: a\ndata: on\ndata: \ndata: on\n\n",
    "id: 4\ntopic: abc\ndata: \n\n",
    "id: 5\ntopic: b\ndata:  z\ndata: \n\n",
]
# By the number trimmed to: the places of the last ones of all up to it.
LAST = [[], [0], [0, 1], [1, 2], [1, 2, 3], [2, 3, 4]]


def journal_of(many, *trims):
    journal = Journal()
    for topic, text in WRITES[:many]:
        journal.write(topic, text)
    for number in trims:
        journal.trim(number)
    return journal


def plain_text(many, trimmed):
    ones = "".join([FRAMES[place] for place in LAST[trimmed]])
    return f"trim: {trimmed}\n\n" + ones + "on\n\n" + "".join(FRAMES[trimmed:many])


def all_told(journal):
    trimmed = journal.told() - len(journal.kept())
    states = [journal.state_at(number) for number in range(trimmed, journal.told() + 1)]
    return (journal.told(), journal.kept(), journal.last(), states)


def do(journal, step):
    try:
        return getattr(journal, step[0])(*step[1:])
    except NoNumber:
        return NoNumber


CHOICES = [(many, trimmed) for many in range(6) for trimmed in range(many + 1)]
TEXT = plain_text(5, 3)


class Writing(unittest.TestCase):
    def test_with_nothing(self):
        self.assertEqual(journal_text(Journal()), "trim: 0\n\non\n\n")

    def test_with_some(self):
        self.assertEqual(journal_text(journal_of(1)), "trim: 0\n\non\n\nid: 1\ntopic: a\ndata: x\n\n")
        self.assertEqual(journal_text(journal_of(2)), "trim: 0\n\non\n\n" + FRAMES[0] + FRAMES[1])

    def test_trimmed(self):
        self.assertEqual(journal_text(journal_of(3, 1)), "trim: 1\n\n" + FRAMES[0] + "on\n\n" + FRAMES[1] + FRAMES[2])
        self.assertEqual(journal_text(journal_of(4, 3)), "trim: 3\n\n" + FRAMES[1] + FRAMES[2] + "on\n\n" + FRAMES[3])

    def test_trimmed_to_all(self):
        self.assertEqual(journal_text(journal_of(1, 1)), "trim: 1\n\n" + FRAMES[0] + "on\n\n")
        self.assertEqual(journal_text(journal_of(5, 5)), "trim: 5\n\n" + FRAMES[2] + FRAMES[3] + FRAMES[4] + "on\n\n")

    def test_each(self):
        for many, trimmed in CHOICES:
            self.assertEqual(journal_text(journal_of(many, trimmed)), plain_text(many, trimmed))

    def test_the_steps_are_not_written(self):
        self.assertEqual(journal_text(journal_of(5, 0, 1, 1, 3)), TEXT)
        journal = journal_of(5, 3, 4)
        self.assertEqual(journal.back(), "trim")
        self.assertEqual(journal_text(journal), TEXT)
        journal = journal_of(4)
        journal.back()
        self.assertEqual(journal_text(journal), plain_text(3, 0))
        self.assertEqual(journal_text(journal.twin()), plain_text(3, 0))

    def test_writing_changes_nothing(self):
        journal = journal_of(5, 3, 4)
        journal.back()
        ahead = (all_told(journal), journal.counts())
        journal_text(journal)
        self.assertEqual((all_told(journal), journal.counts()), ahead)


class Reading(unittest.TestCase):
    def test_read_back(self):
        for many, trimmed in CHOICES:
            journal = journal_of(many, trimmed)
            other = read_journal(plain_text(many, trimmed))
            self.assertIsInstance(other, Journal)
            self.assertEqual(journal_text(other), plain_text(many, trimmed))
            self.assertEqual(all_told(other), all_told(journal))
            self.assertEqual(other.counts(), (0, 0))

    def test_without_steps(self):
        for many, trimmed in CHOICES:
            other = read_journal(plain_text(many, trimmed))
            ahead = all_told(other)
            self.assertIs(do(other, ("back",)), NoNumber)
            self.assertIs(do(other, ("forth",)), NoNumber)
            self.assertEqual(all_told(other), ahead)

    def test_no_number_as_of_the_other(self):
        for many, trimmed in CHOICES:
            other = read_journal(plain_text(many, trimmed))
            for number, name in itertools.product(range(-1, 8), ("state_at", "trim")):
                if not trimmed <= number <= many:
                    self.assertIs(do(other, (name, number)), NoNumber)

    def test_written_and_trimmed_on_alike(self):
        steps = [("write", "a", "p"), ("write", "q", "q"), ("trim", 2), ("trim", 4), ("trim", 6), ("back",), ("forth",)]
        for many, trimmed in ((0, 0), (2, 0), (3, 1), (3, 3), (5, 4)):
            for row in itertools.product(steps, repeat=3):
                journal = journal_of(many, trimmed)
                done = sum(journal.counts())
                other = read_journal(journal_text(journal))
                for step in row:
                    # Taken back is only what was done since: the other one has no steps ahead of it.
                    if step == ("back",) and journal.counts()[0] == done:
                        continue
                    self.assertEqual(do(other, step), do(journal, step))
                    self.assertEqual(all_told(other), all_told(journal))
                    self.assertEqual(journal_text(other), journal_text(journal))
                    self.assertEqual(other.counts(), (journal.counts()[0] - done, journal.counts()[1]))

    def test_journals_of_one_text_go_by_themselves(self):
        first = read_journal(TEXT)
        second = read_journal(TEXT)
        twin = first.twin()
        first.write("q", "q")
        first.trim(6)
        self.assertEqual((journal_text(second), journal_text(twin)), (TEXT, TEXT))
        twin.trim(4)
        self.assertEqual(journal_text(second), TEXT)
        self.assertEqual(journal_text(first.twin()), journal_text(first))

    def test_great_numbers(self):
        text = "trim: 999998\n\nid: 7\ntopic: a\ndata: \n\nid: 999998\ntopic: b\ndata: \n\non\n\n"
        journal = read_journal(text)
        self.assertEqual((journal.told(), journal.kept()), (999998, []))
        self.assertEqual(journal.write("a", "x"), 999999)
        self.assertEqual(journal.last(), [(999998, "b", ""), (999999, "a", "x")])
        self.assertEqual(journal_text(journal), text + "id: 999999\ntopic: a\ndata: x\n\n")
        self.assertEqual(read_journal(journal_text(journal)).kept(), [(999999, "a", "x")])


class Refused(unittest.TestCase):
    def refuse(self, text):
        with self.assertRaises(NoText, msg=text) as caught:
            read_journal(text)
        self.assertIs(type(caught.exception), NoText)

    def test_the_empty_text(self):
        self.refuse("")

    def test_a_line_left_out(self):
        for many, trimmed in CHOICES:
            lines = plain_text(many, trimmed).split("\n")[:-1]
            for place in range(len(lines)):
                # Part of a text of several parts may be left out, and it is another text.
                if not lines[place].startswith("data: ") or lines[place] == "data: x":
                    self.refuse("".join([line + "\n" for line in lines[:place] + lines[place + 1:]]))

    def test_a_line_twice(self):
        for many, trimmed in CHOICES:
            lines = plain_text(many, trimmed).split("\n")[:-1]
            for place in range(len(lines)):
                if not lines[place].startswith("data: "):
                    self.refuse("".join([line + "\n" for line in lines[:place + 1] + lines[place:]]))

    def test_two_lines_exchanged(self):
        for text in (TEXT, plain_text(2, 0), plain_text(2, 1)):
            lines = text.split("\n")[:-1]
            for one, other in itertools.combinations(range(len(lines)), 2):
                front = lines[one].split(" ")[0]
                if front in ("data:", "topic:") and lines[other].startswith(front) or lines[one] == lines[other]:
                    continue
                changed = list(lines)
                changed[one], changed[other] = lines[other], lines[one]
                self.refuse("".join([line + "\n" for line in changed]))

    def test_a_message_left_out_or_twice(self):
        # Without the last one of b up to the trim, or the last of all, it is the text of another journal.
        for place in (2, 3):
            self.refuse(TEXT.replace(FRAMES[place], ""))
        for place in (1, 2, 3, 4):
            self.refuse(TEXT.replace(FRAMES[place], FRAMES[place] * 2))
            self.refuse(TEXT + FRAMES[place])

    def test_a_text_cut_off(self):
        for many, trimmed in CHOICES:
            text = plain_text(many, trimmed)
            for end in range(len(text)):
                if text[:end] not in [plain_text(fewer, trimmed) for fewer in range(trimmed, many)]:
                    self.refuse(text[:end])
            for start in range(1, len(text) + 1):
                self.refuse(text[start:])

    def test_trim_numbers(self):
        for number in ("", "00", "03", "+3", "-3", " 3", "3 ", "3.", "x", "-0", "+0", "1", "2", "4", "5", "1000000",
                       "3_", "0x3", "9" * 5000, "0" * 5000):
            self.refuse(TEXT.replace("trim: 3", "trim: " + number))
            self.refuse("trim: " + number + "\n\non\n\n")
        for head in ("trim:3", "Trim: 3", "trim 3", "trim:  3", " trim: 3", "3", "", "trims: 3"):
            self.refuse(TEXT.replace("trim: 3", head))

    def test_last_ones_that_are_none(self):
        for trimmed, ones in (
            # Two of one topic.
            (2, "id: 1\ntopic: a\ndata: \n\nid: 2\ntopic: a\ndata: \n\n"),
            (3, FRAMES[0] + FRAMES[1] + FRAMES[2]),
            # Numbers that do not rise.
            (2, FRAMES[1] + FRAMES[0]), (3, FRAMES[2] + FRAMES[1]), (2, FRAMES[1] + "id: 2\ntopic: a\ndata: \n\n"),
            (2, FRAMES[1] + FRAMES[1]),
            # Numbers above the trim.
            (1, FRAMES[1]), (1, FRAMES[0] + FRAMES[1]), (0, FRAMES[0]),
            # None of the number trimmed to.
            (1, ""), (3, FRAMES[1]), (999999, FRAMES[0]), (5, FRAMES[0] + FRAMES[1]),
        ):
            self.refuse(f"trim: {trimmed}\n\n" + ones + "on\n\n")

    def test_last_ones_that_may_be(self):
        for trimmed, ones in ((2, FRAMES[1]), (3, FRAMES[2]), (4, FRAMES[0] + FRAMES[3]), (5, FRAMES[4])):
            text = f"trim: {trimmed}\n\n" + ones + "on\n\n"
            self.assertEqual(journal_text(read_journal(text)), text)

    def test_kept_numbers_that_do_not_go_on_by_one(self):
        for trimmed, kept in ((0, FRAMES[1]), (0, FRAMES[0] + FRAMES[2]), (0, FRAMES[1] + FRAMES[0]), (1, FRAMES[0]),
                              (1, FRAMES[2]), (1, FRAMES[1] + FRAMES[3]), (1, FRAMES[1] + FRAMES[1]),
                              (1, FRAMES[0] + FRAMES[1]), (3, FRAMES[4]), (3, FRAMES[2] + FRAMES[3]),
                              (1, FRAMES[1] + FRAMES[2] + FRAMES[2])):
            self.refuse(plain_text(trimmed, trimmed) + kept)

    def test_lines_that_begin_with_a_colon(self):
        lines = TEXT.split("\n")[:-1]
        for place in range(len(lines) + 1):
            self.refuse("".join([line + "\n" for line in lines[:place] + [":x"] + lines[place:]]))

    def test_more_empty_lines(self):
        for text in (TEXT, plain_text(0, 0), plain_text(2, 0), plain_text(2, 2)):
            lines = text.split("\n")[:-1]
            for place in range(len(lines) + 1):
                self.refuse("".join([line + "\n" for line in lines[:place] + [""] + lines[place:]]))

    def test_the_line_in_the_middle(self):
        for other in ("", "on\n", "\n", "on \n\n", " on\n\n", "On\n\n", "no\n\n", "on\n\non\n\n", "data: on\n\n",
                      "on: \n\n", "n\n\n"):
            self.refuse("trim: 0\n\n" + other)
            self.refuse(plain_text(3, 2).replace("\non\n\n", "\n" + other))

    def test_messages_that_are_none(self):
        for bad in ("id: 4\ntopic: abcd\ndata: \n\n", "id: 04\ntopic: a\ndata: \n\n", "id: 4\ntopic: a\n\n",
                    "id: 4\ntopic: a\ndata: X\n\n", "id: 4\ntopic: a\ndata: abcdefghi\n\n", "id: 4\ntopic: \ndata: \n\n"):
            self.refuse(plain_text(3, 3) + bad)
            self.refuse("trim: 4\n\n" + bad + "on\n\n")

    def test_every_text_with_one_sign_other(self):
        text = plain_text(3, 2)
        texts = []
        for place, sign in itertools.product(range(len(text) + 1), "\n :0123oabA~"):
            texts.append(text[:place] + sign + text[place:])
            texts.append(text[:place] + sign + text[place + 1:])
            texts.append(text[:place] + text[place + 1:])
        refused = 0
        for other in texts:
            try:
                journal = read_journal(other)
            except NoText:
                refused += 1
                continue
            self.assertEqual(journal_text(journal), other)
        self.assertGreater(refused, len(texts) // 2)


class Interface(unittest.TestCase):
    def test_names_and_arguments(self):
        for one in (journal_text, read_journal):
            self.assertEqual(len(inspect.signature(one).parameters), 1)

    def test_kinds(self):
        self.assertIs(type(journal_text(Journal())), str)


if __name__ == "__main__":
    unittest.main()
