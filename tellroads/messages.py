"""Messages, tuples (number, topic, text), and what lists of them tell."""

LETTERS = "abcdefghijklmnopqrstuvwxyz"
TEXT_SIGNS = "abcdefghijklmnopqrstuvwxyz \n"
GREATEST_NUMBER = 999999
LONGEST_TOPIC = 3
LONGEST_TEXT = 8


def number_of(message):
    return message[0]


def topic_of(message):
    return message[1]


def text_of(message):
    return message[2]


def is_whole(thing):
    # Python counts True and False among its ints; here they are none.
    return isinstance(thing, int) and not isinstance(thing, bool)


def is_number(thing):
    return is_whole(thing) and 1 <= thing <= GREATEST_NUMBER


def has_only(text, signs):
    return all([sign in signs for sign in text])


def is_topic(thing):
    return isinstance(thing, str) and 1 <= len(thing) <= LONGEST_TOPIC and has_only(thing, LETTERS)


def is_text(thing):
    return isinstance(thing, str) and len(thing) <= LONGEST_TEXT and has_only(thing, TEXT_SIGNS)


def is_message(thing):
    if not isinstance(thing, tuple) or len(thing) != 3:
        return False
    return is_number(number_of(thing)) and is_topic(topic_of(thing)) and is_text(text_of(thing))


def of_topics(messages, topics):
    if topics is None:
        return list(messages)
    return [message for message in messages if topic_of(message) in topics]


def with_greater_numbers(messages, number):
    return [message for message in messages if number_of(message) > number]


def last_ones(messages):
    newest = {}
    for message in sorted(messages, key=number_of):
        newest[topic_of(message)] = message
    # A topic keeps the place in the dict at which it first came, so they are sorted once more.
    return sorted(newest.values(), key=number_of)


def state_of(messages):
    state = {}
    for message in last_ones(messages):
        state[topic_of(message)] = text_of(message)
    return state


def gaps_in(numbers):
    gaps = []
    for place in range(1, len(numbers)):
        first = numbers[place - 1] + 1
        last = numbers[place] - 1
        if first <= last:
            gaps.append((first, last))
    return gaps
