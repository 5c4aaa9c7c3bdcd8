"""A teller numbers what it tells, keeps some of it, and tells whoever was cut off how to go on."""

from tellroads.errors import NoNumber
from tellroads.messages import last_ones, of_topics, with_greater_numbers


class Teller:
    def __init__(self, keep):
        self.keep = keep
        self.turn = 0
        self.total = 0
        self.stored = []
        # The last message of each topic outlives the stored ones: whoever fell behind them needs it.
        self.newest = {}

    def tell(self, topic, text):
        self.total = self.total + 1
        message = (self.total, topic, text)
        self.newest[topic] = message
        self.stored.append(message)
        if len(self.stored) > self.keep:
            self.stored.pop(0)
        return self.total

    def told(self):
        return self.total

    def kept(self):
        return list(self.stored)

    def oldest(self):
        return self.total - len(self.stored) + 1

    def last(self):
        return last_ones(list(self.newest.values()))

    def behind(self, number, topics):
        if number < 0 or number > self.total:
            raise NoNumber("a number below 0, or greater than the last one told")
        found = of_topics(with_greater_numbers(self.stored, number), topics)
        return (found, max(0, self.oldest() - 1 - number))

    def anew(self):
        self.turn = self.turn + 1
        self.total = 0
        self.stored = []
        self.newest = {}

    def mark(self):
        return (self.turn, self.total)

    def since(self, mark, topics):
        turn = mark[0]
        number = mark[1]
        if turn > self.turn or number < 0:
            raise NoNumber("a mark of a later turn, or with a number below 0")
        if turn < self.turn:
            # Numbers of an earlier turn say nothing of this one, so any from 0 on will do.
            return ("anew", of_topics(self.last(), topics))
        found = self.behind(number, topics)
        if found[1] == 0:
            return ("on", found[0])
        return ("gap", of_topics(with_greater_numbers(self.last(), number), topics))
