"""Relays tell on what they heard; several sources are heard beside one another."""

from tellroads.errors import NoNumber
from tellroads.hearers import Hearer
from tellroads.messages import number_of, of_topics, text_of, topic_of, with_greater_numbers


class Relay(Hearer):
    def __init__(self, keep):
        Hearer.__init__(self)
        self.keep = keep

    def kept(self):
        heard = self.heard()
        return heard[max(0, len(heard) - self.keep):]

    def behind(self, number, topics):
        if number < 0 or number >= self.expects():
            raise NoNumber("a number below 0, or none ahead of the one that is expected")
        found = with_greater_numbers(self.kept(), number)
        # Lost numbers are not among those kept either, so they count as well.
        absent = self.expects() - 1 - number - len(found)
        return (of_topics(found, topics), absent)


def led_on(relay, hearer):
    if relay.expects() <= hearer.expects():
        return []
    found = relay.behind(hearer.expects() - 1, None)
    heard = hearer.take_all(found[0])
    if found[1] > 0:
        heard.extend(hearer.give_up(relay.expects()))
    return heard


class Sources:
    def __init__(self):
        self.hearers = {}
        self.story = []

    def take(self, source, message):
        # A new hearer refuses no message, so a refused one makes no source known.
        if source not in self.hearers:
            self.hearers[source] = Hearer()
        heard = self.hearers[source].take(message)
        for one in heard:
            self.story.append((source, number_of(one), topic_of(one), text_of(one)))
        return len(heard)

    def heard(self):
        return list(self.story)

    def marks(self):
        marks = {}
        for source in self.hearers:
            marks[source] = self.hearers[source].expects() - 1
        return marks

    def lacks(self, marks):
        own = self.marks()
        return sorted([(source, own.get(source, 0)) for source in marks if own.get(source, 0) < marks[source]])
