"""[3.1] and [3.2]: hearers."""

import inspect
import itertools
import unittest

from tellroads import hearers
from tellroads.errors import NoNumber, Other, TellError
from tellroads.hearers import Hearer, caught_up
from tellroads.tellers import Teller

FIVE = [(1, "a", "x"), (2, "b", ""), (3, "a", "y"), (4, "c", "z"), (5, "a", "x")]


def hearer_of(row, given_up=0):
    hearer = Hearer()
    for message in row:
        hearer.take(message)
    hearer.give_up(given_up)
    return hearer


def picked(*numbers):
    return [FIVE[number - 1] for number in numbers]


def all_told(hearer):
    return (hearer.expects(), hearer.heard(), hearer.early(), hearer.missing(), hearer.lost(), hearer.state())


class Plain:
    """A hearer written straight from the words: what it expects is the least number neither heard nor lost."""

    def __init__(self):
        self.row = []
        self.held = {}
        self.gone = []

    def expects(self):
        number = 1
        while number in self.gone or number in [one[0] for one in self.row]:
            number += 1
        return number

    def step(self):
        heard = []
        while self.expects() in self.held:
            heard.append(self.held.pop(self.expects()))
            self.row.append(heard[-1])
        return heard

    def take(self, message):
        for one in self.row + list(self.held.values()):
            if one[0] == message[0] and one != message:
                return "Other"
        if message[0] < self.expects():
            return []
        self.held[message[0]] = message
        return self.step()

    def give_up(self, number):
        expected = self.expects()
        self.gone += [one for one in range(expected, number) if one not in self.held]
        return self.step()

    def all_told(self):
        early = sorted(self.held)
        missing = [one for one in range(self.expects(), early[-1]) if one not in early] if early else []
        return (self.expects(), self.row, early, missing, self.gone, {one[1]: one[2] for one in self.row})


class Refusals(unittest.TestCase):
    def refuses(self, refusal, call, *values):
        with self.subTest(str(values)):
            with self.assertRaises(TellError) as caught:
                call(*values)
            self.assertIs(type(caught.exception), refusal)


class Taking(Refusals):
    def test_at_first_nothing_was_heard(self):
        self.assertEqual(all_told(Hearer()), (1, [], [], [], [], {}))

    def test_in_order(self):
        hearer = Hearer()
        for place, message in enumerate(FIVE):
            self.assertEqual(hearer.expects(), place + 1)
            self.assertEqual(hearer.take(message), [message])
            self.assertEqual(hearer.heard(), FIVE[:place + 1])
            self.assertEqual((hearer.early(), hearer.missing(), hearer.lost()), ([], [], []))
        self.assertEqual(hearer.expects(), 6)

    def test_in_the_reverse_order(self):
        hearer = Hearer()
        for number in (5, 4, 3, 2):
            self.assertEqual(hearer.take(FIVE[number - 1]), [])
            self.assertEqual(hearer.expects(), 1)
            self.assertEqual(hearer.heard(), [])
            self.assertEqual(hearer.early(), list(range(number, 6)))
            self.assertEqual(hearer.missing(), list(range(1, number)))
        self.assertEqual(hearer.take(FIVE[0]), FIVE)
        self.assertEqual(all_told(hearer), (6, FIVE, [], [], [], {"a": "x", "b": "", "c": "z"}))

    def test_with_gaps(self):
        hearer = Hearer()
        self.assertEqual(hearer.take(FIVE[0]), [FIVE[0]])
        self.assertEqual(hearer.take(FIVE[2]), [])
        self.assertEqual(hearer.take(FIVE[4]), [])
        self.assertEqual((hearer.expects(), hearer.early(), hearer.missing()), (2, [3, 5], [2, 4]))
        self.assertEqual(hearer.take(FIVE[1]), picked(2, 3))
        self.assertEqual((hearer.expects(), hearer.early(), hearer.missing()), (4, [5], [4]))
        self.assertEqual(hearer.take(FIVE[3]), picked(4, 5))
        self.assertEqual((hearer.expects(), hearer.early(), hearer.missing()), (6, [], []))
        self.assertEqual(hearer.heard(), FIVE)

    def test_an_expected_one_with_many_held_behind_it(self):
        row = [(number, "a", "") for number in range(1, 3001)]
        hearer = hearer_of(reversed(row[1:]))
        self.assertEqual(hearer.heard(), [])
        self.assertEqual(hearer.take(row[0]), row)
        self.assertEqual(hearer.expects(), 3001)

    def test_each_one_twice(self):
        for order in itertools.permutations(FIVE):
            hearer = Hearer()
            heard = []
            for message in order:
                heard += hearer.take(message)
                ahead = all_told(hearer)
                # A message that is equal, and not the very same one.
                self.assertEqual(hearer.take(tuple(list(message))), [])
                self.assertEqual(all_told(hearer), ahead)
            self.assertEqual(heard, FIVE)
            self.assertEqual(hearer.heard(), FIVE)
            self.assertEqual(hearer.take_all(order), [])

    def test_another_one_of_a_heard_number(self):
        hearer = hearer_of(picked(1, 2, 3, 5))
        for other in ((1, "a", "y"), (1, "b", "x"), (2, "b", " "), (3, "ab", "y")):
            ahead = all_told(hearer)
            self.refuses(Other, hearer.take, other)
            self.assertEqual(all_told(hearer), ahead)

    def test_another_one_of_a_held_number(self):
        hearer = hearer_of(picked(1, 3, 5))
        for other in ((3, "a", "x"), (3, "b", "y"), (5, "a", "")):
            ahead = all_told(hearer)
            self.refuses(Other, hearer.take, other)
            self.assertEqual(all_told(hearer), ahead)
        self.assertEqual(hearer.take(FIVE[1]), picked(2, 3))

    def test_another_one_of_a_number_that_was_held_and_is_heard(self):
        hearer = hearer_of(picked(3, 2, 1))
        self.refuses(Other, hearer.take, (3, "a", "x"))
        self.refuses(Other, hearer.take, (2, "b", "x"))
        self.assertEqual(hearer.take(FIVE[2]), [])

    def test_a_lost_number_that_comes_late(self):
        hearer = hearer_of(picked(1, 4), 3)
        ahead = all_told(hearer)
        self.assertEqual(hearer.lost(), [2])
        for late in ((2, "b", ""), (2, "a", "x"), (2, "b", "")):
            self.assertEqual(hearer.take(late), [])
            self.assertEqual(all_told(hearer), ahead)

    def test_numbers_somewhat_below_1_are_not_refused(self):
        hearer = hearer_of(picked(1))
        ahead = all_told(hearer)
        for late in ((0, "a", "x"), (0, "b", "y"), (-1, "a", "")):
            self.assertEqual(hearer.take(late), [])
            self.assertEqual(all_told(hearer), ahead)

    def test_numbers_far_ahead(self):
        hearer = hearer_of([(999999, "a", ""), (1000000, "b", "")])
        self.assertEqual(hearer.early(), [999999, 1000000])
        self.assertEqual(len(hearer.missing()), 999998)
        self.assertEqual(hearer.missing()[0], 1)
        self.assertEqual(hearer.missing()[-1], 999998)


class TakingAll(Refusals):
    def test_none(self):
        for row in ([], picked(1), picked(2), FIVE):
            hearer = hearer_of(row)
            ahead = all_told(hearer)
            self.assertEqual(hearer.take_all([]), [])
            self.assertEqual(all_told(hearer), ahead)

    def test_many(self):
        for order in itertools.permutations(FIVE):
            hearer = Hearer()
            self.assertEqual(hearer.take_all(list(order)), FIVE)
            self.assertEqual(hearer.heard(), FIVE)
            self.assertEqual(hearer.expects(), 6)

    def test_as_one_taken_behind_the_other(self):
        ahead = (([], 0), (picked(1), 0), (picked(3), 0), (picked(3), 3), (picked(2, 4), 2), ([], 4))
        for length in range(5):
            for row in itertools.product(FIVE, repeat=length):
                for known, given_up in ahead:
                    hearer = hearer_of(known, given_up)
                    other = hearer_of(known, given_up)
                    heard = []
                    for message in row:
                        heard += other.take(message)
                    self.assertEqual(hearer.take_all(list(row)), heard)
                    self.assertEqual(all_told(hearer), all_told(other))

    def test_unlike_ones_of_a_lost_number_are_not_refused(self):
        hearer = hearer_of([], 3)
        self.assertEqual(hearer.take_all([(2, "a", "x"), (2, "b", "y"), FIVE[2]]), picked(3))

    def test_behind_a_refusal_all_is_as_ahead_of_it(self):
        for row in (picked(1, 2) + [(2, "c", "")], picked(1, 3, 5) + [(5, "c", "")], [(4, "a", "")] + picked(2, 4),
                    picked(2) + [(1, "a", "x"), (1, "a", "y")]):
            hearer = Hearer()
            self.refuses(Other, hearer.take_all, row)
            self.assertEqual(all_told(hearer), all_told(Hearer()))
            self.assertEqual(hearer.take_all(FIVE), FIVE)


class EarlyAndMissing(unittest.TestCase):
    def says(self, row, early, missing):
        hearer = hearer_of(row)
        self.assertEqual(hearer.early(), early)
        self.assertEqual(hearer.missing(), missing)
        self.assertIs(type(hearer.early()), list)
        self.assertIs(type(hearer.missing()), list)

    def test_none_held(self):
        self.says([], [], [])
        self.says(picked(1), [], [])
        self.says(FIVE, [], [])

    def test_one_held(self):
        self.says(picked(2), [2], [1])
        self.says(picked(5), [5], [1, 2, 3, 4])
        self.says(picked(1, 2, 4), [4], [3])

    def test_several_held(self):
        self.says(picked(5, 3), [3, 5], [1, 2, 4])
        self.says(picked(4, 5, 3), [3, 4, 5], [1, 2])
        self.says(picked(1, 5, 4), [4, 5], [2, 3])

    def test_rising_by_numbers_and_not_as_they_came(self):
        row = [(number, "a", "") for number in (12, 3, 100, 9, 11)]
        self.says(row, [3, 9, 11, 12, 100], [1, 2, 4, 5, 6, 7, 8, 10] + list(range(13, 100)))


class GivingUp(unittest.TestCase):
    def test_nothing_is_lost_by_the_expected_number_or_a_lesser_one(self):
        for row in ([], picked(1, 2), picked(2, 4), picked(1, 2, 4), FIVE):
            hearer = hearer_of(row)
            ahead = all_told(hearer)
            for number in range(-3, hearer.expects() + 1):
                self.assertEqual(hearer.give_up(number), [])
                self.assertEqual(all_told(hearer), ahead)

    def test_one_number(self):
        hearer = Hearer()
        self.assertEqual(hearer.give_up(2), [])
        self.assertEqual(all_told(hearer), (2, [], [], [], [1], {}))

    def test_held_ones_ahead_of_it_at_it_and_just_behind_it(self):
        row = [(number, "a", "") for number in (2, 4, 6, 7, 9)]
        hearer = hearer_of(row)
        self.assertEqual(hearer.give_up(6), row[:4])
        self.assertEqual(hearer.expects(), 8)
        self.assertEqual(hearer.heard(), row[:4])
        self.assertEqual(hearer.lost(), [1, 3, 5])
        self.assertEqual(hearer.early(), [9])
        self.assertEqual(hearer.missing(), [8])

    def test_a_held_one_just_behind_the_number_is_not_heard_yet(self):
        hearer = hearer_of(picked(3, 5))
        self.assertEqual(hearer.give_up(4), picked(3))
        self.assertEqual((hearer.expects(), hearer.lost(), hearer.early()), (4, [1, 2], [5]))

    def test_the_number_itself_is_not_lost(self):
        hearer = hearer_of([], 3)
        self.assertEqual((hearer.expects(), hearer.lost()), (3, [1, 2]))
        self.assertEqual(hearer.take(FIVE[2]), picked(3))

    def test_a_number_that_the_held_ones_go_beyond(self):
        hearer = hearer_of(picked(2, 3, 4))
        self.assertEqual(hearer.give_up(3), picked(2, 3, 4))
        self.assertEqual((hearer.expects(), hearer.lost()), (5, [1]))

    def test_a_number_greater_than_all_that_came(self):
        hearer = hearer_of(picked(1, 3, 5))
        self.assertEqual(hearer.give_up(9), picked(3, 5))
        self.assertEqual(all_told(hearer), (9, picked(1, 3, 5), [], [], [2, 4, 6, 7, 8], {"a": "x"}))
        self.assertEqual(hearer.take((9, "b", "z")), [(9, "b", "z")])

    def test_given_up_twice(self):
        hearer = hearer_of(picked(2, 5))
        self.assertEqual(hearer.give_up(4), picked(2))
        ahead = all_told(hearer)
        self.assertEqual(hearer.give_up(4), [])
        self.assertEqual(all_told(hearer), ahead)

    def test_lost_behind_several(self):
        hearer = hearer_of(picked(2), 2)
        self.assertEqual(hearer.lost(), [1])
        hearer.give_up(5)
        self.assertEqual(hearer.lost(), [1, 3, 4])
        hearer.take(FIVE[4])
        hearer.give_up(8)
        self.assertEqual(hearer.lost(), [1, 3, 4, 6, 7])

    def test_held_ones_that_are_heard_so_are_refused_as_others_then(self):
        hearer = hearer_of(picked(3), 3)
        with self.assertRaises(Other):
            hearer.take((3, "a", "x"))
        self.assertEqual(hearer.take(FIVE[2]), [])

    def test_state(self):
        hearer = hearer_of(picked(1, 2))
        self.assertEqual(hearer.state(), {"a": "x", "b": ""})
        hearer.take(FIVE[3])
        self.assertEqual(hearer.state(), {"a": "x", "b": ""})
        hearer.give_up(4)
        self.assertEqual(hearer.state(), {"a": "x", "b": "", "c": "z"})
        hearer.take(FIVE[2])
        self.assertEqual(hearer.state(), {"a": "x", "b": "", "c": "z"})
        hearer.take((5, "a", "w"))
        self.assertEqual(hearer.state(), {"a": "w", "b": "", "c": "z"})


class EveryWay(unittest.TestCase):
    """All short rows of steps, beside a hearer that is written straight from the words."""

    STEPS = ([("take", (number, "a", text)) for number in (1, 2, 3, 4) for text in ("x", "y")]
             + [("give_up", number) for number in (0, 1, 2, 3, 4, 5)])

    def do(self, hearer, step):
        try:
            return hearer.take(step[1]) if step[0] == "take" else hearer.give_up(step[1])
        except Other:
            return "Other"

    def test_as_the_words_say(self):
        for steps in itertools.product(self.STEPS, repeat=4):
            hearer = Hearer()
            plain = Plain()
            for step in steps:
                self.assertEqual(self.do(hearer, step), self.do(plain, step), steps)
            self.assertEqual(all_told(hearer), plain.all_told(), steps)


class CaughtUp(Refusals):
    def teller(self, keep, row=FIVE):
        teller = Teller(keep)
        for message in row:
            teller.tell(message[1], message[2])
        return teller

    def says(self, teller, hearer, heard, lost):
        told = caught_up(teller, hearer)
        self.assertEqual(told, (heard, lost))
        self.assertIs(type(told), tuple)
        self.assertIs(type(told[0]), list)
        self.assertEqual(hearer.expects(), teller.told() + 1)
        ahead = all_told(hearer)
        self.assertEqual(caught_up(teller, hearer), ([], 0))
        self.assertEqual(all_told(hearer), ahead)

    def test_with_all_kept(self):
        for keep in (5, 6, 100):
            self.says(self.teller(keep), Hearer(), FIVE, 0)
            self.says(self.teller(keep), hearer_of(FIVE[:3]), FIVE[3:], 0)
            self.says(self.teller(keep), hearer_of(FIVE), [], 0)

    def test_with_some_kept(self):
        hearer = Hearer()
        self.says(self.teller(2), hearer, FIVE[3:], 3)
        self.assertEqual(hearer.lost(), [1, 2, 3])
        hearer = hearer_of(FIVE[:2])
        self.says(self.teller(2), hearer, FIVE[3:], 1)
        self.assertEqual(hearer.lost(), [3])
        self.says(self.teller(2), hearer_of(FIVE[:3]), FIVE[3:], 0)
        self.says(self.teller(2), hearer_of(FIVE[:4]), FIVE[4:], 0)

    def test_with_none_kept(self):
        hearer = Hearer()
        self.says(self.teller(0), hearer, [], 5)
        self.assertEqual(hearer.lost(), [1, 2, 3, 4, 5])
        self.says(self.teller(0), hearer_of(FIVE[:4]), [], 1)
        self.says(self.teller(0), hearer_of(FIVE), [], 0)

    def test_with_early_ones(self):
        self.says(self.teller(9), hearer_of(picked(2, 5)), FIVE, 0)
        hearer = hearer_of(picked(2, 5))
        self.says(self.teller(2), hearer, picked(2, 4, 5), 2)
        self.assertEqual(hearer.lost(), [1, 3])
        hearer = hearer_of(picked(1, 3, 5))
        self.says(self.teller(0), hearer, picked(3, 5), 2)
        self.assertEqual(hearer.lost(), [2, 4])
        self.says(self.teller(2), hearer_of(picked(3)), picked(3, 4, 5), 2)
        self.says(self.teller(2), hearer_of(picked(4)), picked(4, 5), 3)

    def test_with_nothing_told(self):
        for keep in (0, 1, 5):
            self.says(self.teller(keep, []), Hearer(), [], 0)

    def test_only_those_lost_now_are_counted(self):
        hearer = hearer_of([], 3)
        self.says(self.teller(2), hearer, picked(4, 5), 1)
        self.assertEqual(hearer.lost(), [1, 2, 3])
        hearer = hearer_of([], 3)
        self.says(self.teller(3), hearer, picked(3, 4, 5), 0)
        self.assertEqual(hearer.lost(), [1, 2])

    def test_more_is_told_then(self):
        teller = self.teller(2)
        hearer = Hearer()
        caught_up(teller, hearer)
        teller.tell("b", "q")
        self.says(teller, hearer, [(6, "b", "q")], 0)

    def test_every_keep_and_all_that_may_have_come(self):
        for keep in range(7):
            for bits in itertools.product((False, True), repeat=5):
                came = [message for message, bit in zip(FIVE, bits) if bit]
                hearer = hearer_of(came)
                ahead = hearer.heard()
                kept = FIVE[max(0, 5 - keep):]
                known = [message for message in FIVE if message in came or message in kept]
                self.says(self.teller(keep), hearer, known[len(ahead):], 5 - len(known))
                self.assertEqual(hearer.heard(), known)
                self.assertEqual(hearer.lost(), [one[0] for one in FIVE if one not in known])

    def test_the_teller_stays_as_it_is(self):
        teller = self.teller(2)
        caught_up(teller, Hearer())
        self.assertEqual((teller.mark(), teller.kept(), teller.last()), ((0, 5), FIVE[3:], picked(2, 4, 5)))

    def test_behind_a_refusal_all_is_as_ahead_of_it(self):
        for keep in (1, 2, 9):
            hearer = hearer_of([(2, "b", ""), (5, "a", "q")])
            ahead = all_told(hearer)
            self.refuses(Other, caught_up, self.teller(keep), hearer)
            self.assertEqual(all_told(hearer), ahead)
        hearer = hearer_of(FIVE)
        ahead = all_told(hearer)
        self.refuses(NoNumber, caught_up, self.teller(2, FIVE[:4]), hearer)
        self.assertEqual(all_told(hearer), ahead)


class Interface(unittest.TestCase):
    def test_names_and_arguments(self):
        hearer = Hearer()
        self.assertEqual(len(inspect.signature(Hearer).parameters), 0)
        self.assertEqual(len(inspect.signature(hearers.caught_up).parameters), 2)
        for name, many in (("expects", 0), ("take", 1), ("take_all", 1), ("heard", 0), ("early", 0), ("missing", 0),
                           ("lost", 0), ("give_up", 1), ("state", 0)):
            with self.subTest(name):
                self.assertEqual(len(inspect.signature(getattr(hearer, name)).parameters), many)


if __name__ == "__main__":
    unittest.main()
