"""Plans of tries, each later behind the one ahead, and callers that try by them."""

from tellroads.errors import NoNumber


def first_of(plan):
    return plan[0]


def times_of(plan):
    return plan[1]


def most_of(plan):
    return plan[2]


def many_of(plan):
    return plan[3]


def wait_of(plan, number):
    wait = first_of(plan)
    most = most_of(plan)
    for step in range(number):
        grown = wait * times_of(plan)
        # From here on it is the same for all numbers, however great: no need to walk up to them.
        if grown == wait or grown > wait >= most:
            break
        wait = grown
    return min(wait, most)


def waits(plan):
    return [wait_of(plan, number) for number in range(many_of(plan) - 1)]


def moments(plan, start):
    found = [start]
    for wait in waits(plan):
        found.append(found[-1] + wait)
    return found


def tries_within(plan, time):
    return len([moment for moment in moments(plan, 0) if moment <= time])


class Caller:
    def __init__(self, plan, now):
        self.plan = plan
        self.bad = 0
        # None, where it tries no more.
        self.next_try = now

    def refuse_untimely(self, now):
        if self.next_try is None or now < self.next_try:
            raise NoNumber("it tries no more, or not yet")

    def failed(self, now):
        self.refuse_untimely(now)
        wait = wait_of(self.plan, self.bad)
        self.bad = self.bad + 1
        self.next_try = now + wait if self.bad < many_of(self.plan) else None
        return self.next_try

    def went_well(self, now):
        self.refuse_untimely(now)
        self.begin(now)

    def begin(self, now):
        self.bad = 0
        self.next_try = now

    def tries_at(self):
        return self.next_try

    def bad_ones(self):
        return self.bad
