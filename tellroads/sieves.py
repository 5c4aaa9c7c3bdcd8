"""Sieves, tuples that let some messages."""

from tellroads.messages import is_number, is_text, is_topic, number_of, text_of, topic_of

DEEPEST = 4


def is_sieve(thing):
    return is_sieve_within(thing, DEEPEST)


# deep: how many may stand in one another from here on, this one counted.
def is_sieve_within(thing, deep):
    if deep == 0 or not isinstance(thing, tuple) or len(thing) < 2:
        return False
    if (thing[0], len(thing)) in (("not", 2), ("and", 3), ("or", 3)):
        return all([is_sieve_within(part, deep - 1) for part in thing[1:]])
    return len(thing) == 2 and is_plain_sieve(thing[0], thing[1])


def is_plain_sieve(word, part):
    if word in ("topic", "starts"):
        return is_topic(part)
    if word == "has":
        return is_text(part) and part != ""
    return word == "from" and is_number(part)


def lets(sieve, message):
    word = sieve[0]
    if word == "not":
        return not lets(sieve[1], message)
    if word == "and":
        return lets(sieve[1], message) and lets(sieve[2], message)
    if word == "or":
        return lets(sieve[1], message) or lets(sieve[2], message)
    return lets_plainly(word, sieve[1], message)


def lets_plainly(word, part, message):
    if word == "topic":
        return topic_of(message) == part
    if word == "starts":
        return topic_of(message).startswith(part)
    if word == "has":
        return part in text_of(message)
    return number_of(message) >= part


def sieved(messages, sieve):
    return [message for message in messages if lets(sieve, message)]


def first_apart(one, other, messages):
    for message in messages:
        if lets(one, message) != lets(other, message):
            return message
    return None
