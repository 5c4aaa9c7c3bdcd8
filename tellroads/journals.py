"""Journals are trimmed, keep the state, and go back and forth step by step."""

from tellroads.errors import NoNumber
from tellroads.messages import last_ones, state_of


class Journal:
    def __init__(self):
        # Of all up to this number no more is there than the last ones of each topic.
        self.ground = 0
        self.ground_ones = []
        # All behind the ground, trimmed or not: a trim that is taken back needs them again.
        self.row = []
        self.trimmed = 0
        # Tuples (word, what there was ahead, what there is then), the last step at the end.
        self.steps = []
        self.steps_back = []

    def write(self, topic, text):
        message = (self.told() + 1, topic, text)
        self.step_on(("write", None, message))
        return self.told()

    def told(self):
        return self.ground + len(self.row)

    def trim(self, number):
        self.refuse_unknown(number)
        fewer = number - self.trimmed
        self.step_on(("trim", self.trimmed, number))
        return fewer

    def refuse_unknown(self, number):
        if number > self.told() or number < self.trimmed:
            raise NoNumber("a number greater than the last one told, or less than it was trimmed to")

    def trimmed_to(self):
        return self.trimmed

    def kept(self):
        return self.row[self.trimmed - self.ground:]

    def last(self):
        return self.last_at(self.told())

    def last_at(self, number):
        return last_ones(self.ground_ones + self.row[:number - self.ground])

    def state_at(self, number):
        self.refuse_unknown(number)
        return state_of(self.last_at(number))

    def step_on(self, step):
        self.do_step(step)
        self.steps.append(step)
        self.steps_back = []

    def do_step(self, step):
        if step[0] == "write":
            self.row.append(step[2])
        else:
            self.trimmed = step[2]

    def undo_step(self, step):
        if step[0] == "write":
            self.row.pop()
        else:
            self.trimmed = step[1]

    def back(self):
        if self.steps == []:
            raise NoNumber("there is nothing to take back")
        step = self.steps.pop()
        self.undo_step(step)
        self.steps_back.append(step)
        return step[0]

    def forth(self):
        if self.steps_back == []:
            raise NoNumber("there is nothing to do again")
        step = self.steps_back.pop()
        self.do_step(step)
        self.steps.append(step)
        return step[0]

    def counts(self):
        return (len(self.steps), len(self.steps_back))

    def twin(self):
        other = trimmed_journal(self.ground, self.ground_ones, self.row)
        other.trimmed = self.trimmed
        other.steps = list(self.steps)
        other.steps_back = list(self.steps_back)
        return other


# A journal without steps that was trimmed to a number, of the last ones up to it, and of all that are kept.
def trimmed_journal(number, ones, kept):
    journal = Journal()
    journal.ground = number
    journal.ground_ones = list(ones)
    journal.row = list(kept)
    journal.trimmed = number
    return journal
