"""Lists of messages, each by rising numbers, put together."""

from tellroads.errors import Other
from tellroads.messages import number_of


def by_numbers(rows):
    known = {}
    for row in rows:
        for message in row:
            if known.setdefault(number_of(message), message) != message:
                raise Other("two lists have unlike messages of one number")
    return known


def put_together(rows):
    known = by_numbers(rows)
    return [known[number] for number in sorted(known)]


def lacking(rows):
    known = by_numbers(rows)
    return [sorted(set(known) - set(by_numbers([row]))) for row in rows]


def common(rows):
    lacked = {}
    for numbers in lacking(rows):
        for number in numbers:
            lacked[number] = True
    return [message for message in put_together(rows) if number_of(message) not in lacked]
