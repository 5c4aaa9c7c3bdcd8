"""[0.2] (b) to (e) and [0.3], as far as they speak of hearers, roads, fans, relays and sources."""

import itertools
import unittest

from tellroads.errors import NoNumber, NoRoad, Other, Taken, TellError
from tellroads.fans import Fan
from tellroads.hearers import Hearer, caught_up
from tellroads.relays import Relay, Sources, led_on
from tellroads.roads import Road
from tellroads.tellers import Teller

FIVE = [(1, "a", "x"), (2, "b", ""), (3, "a", "y"), (4, "c", "z"), (5, "a", "x")]
HEARER_STEPS = ([("take", (message,)) for message in FIVE[:4]] + [("take", ((2, "q", ""),)), ("take", ((4, "q", ""),))]
                + [("give_up", (number,)) for number in (2, 3, 5)])
FAN_STEPS = [("tell", ("a", "x")), ("tell", ("b", "y")), ("carry", ("p", 1)), ("carry", ("q", 9)),
             ("catch_up", ("p",)), ("catch_up", ("q",)), ("carry", ("r", 2))]
FAN_ROADS = (("p", 1, "cut"), ("q", 2, "old"), ("r", 1, "new"))
SOURCE_STEPS = [("take", (source, message)) for source in ("p", "q") for message in FIVE[:3] + [(2, "q", "")]]


def do(thing, step):
    try:
        return getattr(thing, step[0])(*step[1])
    except TellError as refusal:
        return type(refusal).__name__


def numbers_of(row):
    return [message[0] for message in row]


def hearer_told(hearer):
    return (hearer.expects(), hearer.heard(), hearer.early(), hearer.missing(), hearer.lost(), hearer.state())


def relay_told(relay):
    told = [relay.expects(), relay.kept()]
    for number in range(relay.expects()):
        told += [relay.behind(number, topics) for topics in (None, [], ["a"])]
    return told


def road_told(road):
    return (road.waiting(), road.left_out(), road.is_cut())


def fan_told(fan):
    told = [fan.names(), fan.slowest()]
    for name in fan.names():
        told.append((fan.heard(name), fan.lost(name), fan.waiting(name), fan.lag(name)))
    return told


def sources_told(sources):
    return (sources.heard(), sources.marks(), sources.lacks({"p": 2, "q": 3, "z": 1}))


def fan_with_roads(keep):
    fan = Fan(keep)
    for name, size, way in FAN_ROADS:
        fan.lay(name, size, way)
    return fan


class EachNumberOnce(unittest.TestCase):
    """(b)"""

    def check(self, heard, lost, expects):
        numbers = numbers_of(heard)
        self.assertEqual(numbers, sorted(set(numbers)))
        self.assertEqual(lost, sorted(set(lost)))
        self.assertEqual(sorted(numbers + lost), list(range(1, expects)))

    def test_a_hearer_whatever_comes_when(self):
        for steps in itertools.product(HEARER_STEPS, repeat=4):
            hearer = Hearer()
            heard = []
            for step in steps:
                answer = do(hearer, step)
                heard += answer if answer != "Other" else []
                self.check(hearer.heard(), hearer.lost(), hearer.expects())
                self.assertEqual(hearer.heard(), heard)
                self.assertTrue(all(number > hearer.expects() for number in hearer.early()))

    def test_the_hearers_of_a_fan(self):
        for keep in (0, 1, 9):
            for steps in itertools.product(FAN_STEPS, repeat=4):
                fan = fan_with_roads(keep)
                for step in steps:
                    do(fan, step)
                told = len([step for step in steps if step[0] == "tell"])
                for name in fan.names():
                    self.check(fan.heard(name), fan.lost(name), told - fan.lag(name) + 1)

    def test_sources(self):
        for steps in itertools.product(SOURCE_STEPS, repeat=4):
            sources = Sources()
            for step in steps:
                do(sources, step)
            for source, far in sources.marks().items():
                heard = [one[1:] for one in sources.heard() if one[0] == source]
                self.check(heard, [], far + 1)


class EachMessageOnTheRoadOnce(unittest.TestCase):
    """(c)"""

    def check(self, size, way, steps):
        road = Road(size, way)
        put = []
        taken = []
        for step in steps:
            if step == "put":
                put.append((len(put) + 1, "a", ""))
                answer = road.put(put[-1])
                self.assertIs(answer, put[-1] in road.waiting())
                self.assertIs(answer, put[-1][0] not in road.left_out())
            elif step == "mend":
                road.mend()
            else:
                taken += road.take(step)
            # They were put by rising numbers, so each of the rows rises too.
            gone_on = numbers_of(taken + road.waiting())
            self.assertEqual(gone_on, sorted(gone_on))
            self.assertEqual(road.left_out(), sorted(road.left_out()))
            self.assertEqual(sorted(gone_on + road.left_out()), numbers_of(put))
            self.assertLessEqual(len(road.waiting()), size)

    def test_every_short_history(self):
        for size, way in itertools.product((1, 2, 3), ("old", "new", "cut")):
            for steps in itertools.product(("put", "mend", 1, 2), repeat=6):
                self.check(size, way, steps)

    def test_a_long_history(self):
        steps = ["put"] * 4 + [1, "put", "mend", "put", "put", 2] + ["put"] * 5 + ["mend", 0, "mend", "put", 3, "put"]
        for size, way in itertools.product((1, 2, 3, 5, 50), ("old", "new", "cut")):
            self.check(size, way, steps * 3)


class CaughtUpIsBehindByNothing(unittest.TestCase):
    """(d)"""

    def test_whatever_came_ahead(self):
        for keep in (0, 1, 2, 9):
            for steps in itertools.product(FAN_STEPS, repeat=4):
                fan = fan_with_roads(keep)
                for step in steps:
                    do(fan, step)
                for name in fan.names():
                    heard = fan.heard(name)
                    lost = fan.lost(name)
                    told = fan.catch_up(name)
                    self.assertEqual(fan.lag(name), 0)
                    self.assertEqual(fan.heard(name), heard + told[0])
                    self.assertEqual(len(fan.lost(name)), len(lost) + told[1])
                    self.assertEqual(fan.catch_up(name), ([], 0))

    def test_the_same_by_roads_or_asked_for(self):
        for steps in itertools.product(("tell", "carry", "catch_up"), repeat=7):
            fan = Fan(99)
            fan.lay("road", 99, "cut")
            fan.lay("asks", 1, "cut")
            fan.lay("both", 2, "old")
            row = []
            for step in steps:
                if step == "tell":
                    text = "abcdefgh"[len(row)]
                    row.append((fan.tell("a", text), "a", text))
                elif step == "carry":
                    fan.carry("road", 1)
                    fan.carry("both", 1)
                else:
                    fan.catch_up("asks")
                    fan.catch_up("both")
            fan.carry("road", 99)
            fan.catch_up("asks")
            fan.catch_up("both")
            for name in fan.names():
                self.assertEqual(fan.heard(name), row)
                self.assertEqual(fan.lost(name), [])

    def test_a_state_of_now_where_all_is_kept(self):
        teller = Teller(9)
        hearer = Hearer()
        for topic in ("a", "b", "a", "c"):
            teller.tell(topic, "x" * teller.told())
            caught_up(teller, hearer)
            self.assertEqual(hearer.state(), {one[1]: one[2] for one in teller.last()})


class WhoeverHearsARelay(unittest.TestCase):
    """(e)"""

    def test_a_hearer_to_which_nothing_else_came(self):
        for keep in (0, 1, 2, 9):
            for steps in itertools.product(HEARER_STEPS, repeat=4):
                relay = Relay(keep)
                for step in steps:
                    do(relay, step)
                hearer = Hearer()
                self.assertEqual(led_on(relay, hearer), relay.kept())
                self.assertEqual(hearer.heard(), relay.kept())
                self.assertEqual(hearer.expects(), relay.expects())
                kept = numbers_of(relay.kept())
                self.assertEqual(hearer.lost(), [one for one in range(1, relay.expects()) if one not in kept])

    def test_one_that_is_led_on_behind_each_step(self):
        # Four steps hear at most four messages, so a relay that keeps four has all that is asked of it.
        for steps in itertools.product(HEARER_STEPS, repeat=4):
            source = Hearer()
            relay = Relay(4)
            second = Relay(4)
            hearer = Hearer()
            for step in steps:
                do(source, step)
                do(relay, step)
                led_on(relay, second)
                led_on(second, hearer)
                self.assertEqual(hearer.heard(), source.heard())
                self.assertEqual(hearer.lost(), source.lost())
                self.assertEqual(hearer.expects(), relay.expects())

    def test_one_that_heard_some_of_it(self):
        for keep, many, early in itertools.product((0, 1, 2, 9), range(5), FIVE):
            relay = Relay(keep)
            hearer = Hearer()
            for message in FIVE:
                relay.take(message)
            for message in FIVE[:many] + [early]:
                hearer.take(message)
            known = hearer.heard() + [early] + relay.kept()
            led_on(relay, hearer)
            self.assertEqual(hearer.heard(), [message for message in FIVE if message in known])
            self.assertEqual(hearer.lost(), [message[0] for message in FIVE if message not in known])


def spoil(told):
    if isinstance(told, list):
        told.append((9, "z", "spoilt"))
        told[0] = None
        told.reverse()
    elif isinstance(told, dict):
        told.clear()
        told["p"] = 99
        told["z"] = "spoilt"
    elif isinstance(told, tuple):
        for part in told:
            spoil(part)


class WhatIsTold(unittest.TestCase):
    """[0.3]: two things go the same steps; whatever one of them tells is changed by whoever got it."""

    def check(self, make, steps, tell):
        thing = make()
        spoilt = make()
        for step in steps:
            answer = do(spoilt, step)
            self.assertEqual(do(thing, step), answer)
            spoil(answer)
            for part in tell(spoilt):
                spoil(part)
            self.assertEqual(tell(spoilt), tell(thing), steps)

    def test_hearers(self):
        for steps in itertools.product(HEARER_STEPS + [("take_all", (FIVE[1:3],))], repeat=3):
            self.check(Hearer, steps, hearer_told)

    def test_relays(self):
        for keep in (0, 2, 9):
            for steps in itertools.product(HEARER_STEPS, repeat=3):
                self.check(lambda: Relay(keep), steps, relay_told)

    def test_roads(self):
        every = [("put", (FIVE[0],)), ("put", (FIVE[3],)), ("take", (1,)), ("take", (9,)), ("mend", ())]
        for size, way in itertools.product((1, 2, 9), ("old", "new", "cut")):
            for steps in itertools.product(every, repeat=4):
                self.check(lambda: Road(size, way), steps, road_told)

    def test_fans(self):
        for keep in (0, 2):
            for steps in itertools.product(FAN_STEPS, repeat=4):
                self.check(lambda: fan_with_roads(keep), steps, fan_told)

    def test_sources(self):
        for steps in itertools.product(SOURCE_STEPS, repeat=3):
            self.check(Sources, steps, sources_told)

    def test_caught_up_and_led_on(self):
        for keep in (0, 2, 9):
            teller = Teller(keep)
            relay = Relay(keep)
            for message in FIVE:
                teller.tell(message[1], message[2])
                relay.take(message)
            ahead = (teller.kept(), teller.last(), relay_told(relay))
            for call, source in ((caught_up, teller), (led_on, relay)):
                hearer = Hearer()
                hearer.take(FIVE[2])
                other = Hearer()
                other.take(FIVE[2])
                spoil(call(source, hearer))
                spoil(call(source, hearer))
                call(source, other)
                self.assertEqual(hearer_told(hearer), hearer_told(other))
                self.assertEqual((teller.kept(), teller.last(), relay_told(relay)), ahead)

    def test_what_was_told_stays_when_more_comes(self):
        hearer = Hearer()
        hearer.take_all([FIVE[0], FIVE[2]])
        told = hearer_told(hearer)
        hearer.take(FIVE[1])
        hearer.give_up(7)
        self.assertEqual(told, (2, FIVE[:1], [3], [2], [], {"a": "x"}))
        relay = Relay(2)
        relay.take(FIVE[0])
        told = relay_told(relay)
        relay.take(FIVE[1])
        relay.take(FIVE[2])
        self.assertEqual(told[:3], [2, FIVE[:1], (FIVE[:1], 0)])
        road = Road(2, "cut")
        road.put(FIVE[0])
        told = road_told(road)
        for message in FIVE[1:]:
            road.put(message)
        self.assertEqual(told, (FIVE[:1], [], False))
        sources = Sources()
        sources.take("p", FIVE[0])
        told = sources_told(sources)
        sources.take("p", FIVE[1])
        self.assertEqual(told, ([("p", 1, "a", "x")], {"p": 1}, [("p", 1), ("q", 0), ("z", 0)]))

    def test_things_of_one_kind_share_nothing(self):
        for make, step, tell in ((Hearer, ("take", (FIVE[0],)), hearer_told), (Sources, SOURCE_STEPS[0], sources_told),
                                 (lambda: Relay(3), ("take", (FIVE[0],)), relay_told),
                                 (lambda: Road(3, "old"), ("put", (FIVE[0],)), road_told),
                                 (lambda: Fan(3), ("lay", ("p", 3, "old")), fan_told)):
            thing = make()
            other = make()
            ahead = tell(other)
            do(thing, step)
            self.assertNotEqual(tell(thing), ahead)
            self.assertEqual(tell(other), ahead)
            self.assertEqual(tell(make()), ahead)


class WhatIsHandedIn(unittest.TestCase):
    """[0.3]: it is not changed, and whoever handed it in may change it then."""

    def test_messages_of_take_all(self):
        for row in ([], FIVE, FIVE[::-1], FIVE[1:3], FIVE[:1] * 3):
            handed = list(row)
            hearer = Hearer()
            hearer.take_all(handed)
            self.assertEqual(handed, row)
            ahead = hearer_told(hearer)
            handed.clear()
            self.assertEqual(hearer_told(hearer), ahead)

    def test_topics_of_behind(self):
        relay = Relay(4)
        for message in FIVE:
            relay.take(message)
        topics = ["c", "a"]
        told = relay.behind(0, topics)
        self.assertEqual(topics, ["c", "a"])
        topics.clear()
        self.assertEqual(told, (FIVE[2:], 1))
        self.assertEqual(relay.behind(0, ["c", "a"]), told)

    def test_marks_of_lacks(self):
        sources = Sources()
        sources.take("p", FIVE[0])
        marks = {"z": 2, "p": 3, "q": 0}
        told = sources.lacks(marks)
        self.assertEqual(list(marks.items()), [("z", 2), ("p", 3), ("q", 0)])
        marks.clear()
        self.assertEqual(told, [("p", 1), ("z", 0)])
        self.assertEqual(sources.marks(), {"p": 1})

    def test_the_marks_of_one_handed_to_another(self):
        sources = Sources()
        sources.take("p", FIVE[0])
        marks = sources.marks()
        self.assertEqual(Sources().lacks(marks), [("p", 0)])
        self.assertEqual(sources.lacks(marks), [])
        self.assertEqual(marks, {"p": 1})


class WhatIsRefused(unittest.TestCase):
    """[0.3]: it changes nothing, neither what is told then nor what comes of what is done then."""

    def check(self, make, steps, refused, tell, more):
        thing = make()
        other = make()
        for step in steps:
            do(thing, step)
            do(other, step)
        for refusal, step in refused:
            ahead = tell(thing)
            self.assertEqual(do(thing, step), refusal.__name__)
            self.assertEqual(tell(thing), ahead)
        for step in more:
            self.assertEqual(do(thing, step), do(other, step))
            self.assertEqual(tell(thing), tell(other))

    def test_hearers_and_relays(self):
        steps = [("take", (message,)) for message in (FIVE[0], FIVE[3], FIVE[2])]
        others = [(number, "q", "q") for number in (1, 3, 4)]
        refused = [(Other, ("take", (other,))) for other in others]
        more = [("take", (message,)) for message in FIVE[1:]]
        self.check(Hearer, steps, refused, hearer_told, more)
        alls = [(Other, ("take_all", ([FIVE[1], FIVE[4], other],))) for other in others]
        self.check(Hearer, steps, alls, hearer_told, more)
        behind = [(NoNumber, ("behind", (number, None))) for number in (-1, 2, 3, 4, 9)]
        self.check(lambda: Relay(1), steps, refused + behind, relay_told, more)

    def test_fans(self):
        steps = [("tell", ("a", "x")), ("carry", ("q", 1)), ("tell", ("b", "y")), ("tell", ("a", "z"))]
        refused = [(Taken, ("lay", ("p", 9, "new"))), (Taken, ("lay", ("q", 2, "old")))]
        refused += [(NoRoad, (name, ("z",))) for name in ("close", "catch_up", "heard", "lost", "waiting", "lag")]
        refused += [(NoRoad, ("carry", ("z", many))) for many in (0, 1, 9)]
        self.check(lambda: fan_with_roads(1), steps, refused, fan_told, FAN_STEPS + [("lay", ("z", 1, "old"))])

    def test_sources(self):
        steps = [("take", ("p", FIVE[0])), ("take", ("p", FIVE[2])), ("take", ("q", FIVE[1]))]
        refused = [(Other, ("take", ("p", (1, "q", "")))), (Other, ("take", ("p", (3, "q", "")))),
                   (Other, ("take", ("q", (2, "q", ""))))]
        self.check(Sources, steps, refused, sources_told, SOURCE_STEPS)


if __name__ == "__main__":
    unittest.main()
