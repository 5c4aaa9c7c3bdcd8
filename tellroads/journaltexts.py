"""Journals as texts."""

from tellroads.errors import NoText
from tellroads.journals import trimmed_journal
from tellroads.messages import number_of
from tellroads.streams import number_in, read, stream_text, without_front

TRIM_FRONT = "trim: "
ON_LINE = "on\n"


def journal_text(journal):
    number = journal.trimmed_to()
    head = TRIM_FRONT + str(number) + "\n\n" + stream_text(journal.last_at(number))
    return head + ON_LINE + "\n" + stream_text(journal.kept())


def read_journal(text):
    # A line feed is ahead of the line in the middle, so that no other line that ends so is taken for it.
    parts = text.partition("\n" + ON_LINE + "\n")
    head = (parts[0] + "\n").partition("\n\n")
    number = trim_number_in(without_front(head[0], TRIM_FRONT))
    ones = read(head[2])
    kept = read(parts[2])
    refuse_unfit(number, ones, kept)
    journal = trimmed_journal(number, ones, kept)
    # Only so is it seen where an empty line, or the one in the middle, is not there, or last ones share a topic.
    if journal_text(journal) != text:
        raise NoText("not the writing of any journal")
    return journal


def trim_number_in(text):
    return 0 if text == "0" else number_in(text)


def refuse_unfit(number, ones, kept):
    numbers = [number_of(message) for message in ones]
    # The message of the very number that was trimmed to is always the last one of its topic.
    if numbers != sorted(set(numbers)) or max(numbers, default=0) != number:
        raise NoText("numbers that the last ones up to the trim can't have")
    if [number_of(message) for message in kept] != list(range(number + 1, number + 1 + len(kept))):
        raise NoText("numbers that do not go on by one from the trim")
