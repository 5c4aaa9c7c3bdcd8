"""A hearer hears each message once, in order, whatever comes late, twice, or not at all."""

from tellroads.errors import Other
from tellroads.messages import number_of, state_of


class Hearer:
    def __init__(self):
        self.next_number = 1
        self.past = []
        # Those that came early, by numbers. Behind each call the one that is expected is not among them.
        self.held = {}
        # All that were heard or are held, by numbers: another one of such a number is refused.
        self.known = {}
        self.given_up = []

    def expects(self):
        return self.next_number

    def take(self, message):
        return self.take_all([message])

    def take_all(self, messages):
        # Looked at ahead of the first change, so that a refusal changes nothing.
        self.refuse_others(messages)
        for message in messages:
            number = number_of(message)
            if number >= self.next_number:
                self.held[number] = message
                self.known[number] = message
        return self.hear_held()

    def refuse_others(self, messages):
        fresh = {}
        for message in messages:
            number = number_of(message)
            if self.known.get(number, fresh.get(number, message)) != message:
                raise Other("another message of this number was heard, or is held")
            # One of a lost number that comes late is neither heard nor held, so it stands against none.
            if number >= self.next_number:
                fresh[number] = message

    def hear_held(self):
        heard = []
        while self.next_number in self.held:
            heard.append(self.held.pop(self.next_number))
            self.next_number = self.next_number + 1
        self.past.extend(heard)
        return heard

    def heard(self):
        return list(self.past)

    def early(self):
        return sorted(self.held)

    def missing(self):
        greatest = max(self.early(), default=0)
        return [number for number in range(self.next_number, greatest) if number not in self.held]

    def lost(self):
        return list(self.given_up)

    def give_up(self, number):
        heard = []
        while self.next_number < number:
            # The one that is expected is not held, so it is the next to be lost.
            self.given_up.append(self.next_number)
            self.next_number = self.next_number + 1
            heard.extend(self.hear_held())
        return heard

    def state(self):
        return state_of(self.past)


def caught_up(teller, hearer):
    found = teller.behind(hearer.expects() - 1, None)
    # Looked at ahead of the giving up, so that a refusal changes nothing.
    hearer.refuse_others(found[0])
    lost_ahead = len(hearer.lost())
    heard = []
    if found[1] > 0:
        heard.extend(hearer.give_up(teller.oldest()))
    heard.extend(hearer.take_all(found[0]))
    return (heard, len(hearer.lost()) - lost_ahead)
