"""[1.1] and the interface below it."""

import unittest

from tests.things import ALL, NO_SIZES, NO_TURNS, SIZES, composed, inverse, plain_of, refused
from turncoats.errors import NoSize, NoTurn
from turncoats.turns import into, is_turn, order, plain, sign, times, undone

ORDERS = {2: {1: 1, 2: 1}, 3: {1: 1, 2: 3, 3: 2}, 4: {1: 1, 2: 9, 3: 8, 4: 6},
          5: {1: 1, 2: 25, 3: 20, 4: 30, 5: 24, 6: 20}}


def power(turn, n):
    told = plain_of(len(turn))
    for _ in range(abs(n)):
        told = composed(told, turn if n > 0 else inverse(turn))
    return told


class IsTurn(unittest.TestCase):
    def test_each_turn_is_one_of_its_size_alone(self):
        for size in SIZES:
            for turn in ALL[size]:
                for other in SIZES:
                    self.assertIs(is_turn(turn, other), size == other, (turn, other))

    def test_nothing_else_is_one(self):
        for at, thing in enumerate(NO_TURNS):
            for size in SIZES:
                with self.subTest(at=at, size=size):
                    self.assertIs(is_turn(thing, size), False)

    def test_no_size(self):
        for at, size in enumerate(NO_SIZES):
            for thing in [(0, 1), (2, 0, 1), None, [0, 1], (0,), (0, 1, 2, 3, 4, 5), (), "01"]:
                with self.subTest(at=at):
                    refused(self, NoSize, is_turn, thing, size)

    def test_by_name(self):
        self.assertIs(is_turn(size=3, thing=(2, 0, 1)), True)
        self.assertIs(is_turn(size=3, thing=2), False)

    def test_lists_handed_in_stay_as_they_are(self):
        thing = [2, 1, 0]
        is_turn(thing, 3)
        self.assertEqual(thing, [2, 1, 0])


class Plain(unittest.TestCase):
    def test_each_size(self):
        told = [plain(2), plain(3), plain(4), plain(5)]
        self.assertEqual(told, [(0, 1), (0, 1, 2), (0, 1, 2, 3), (0, 1, 2, 3, 4)])
        self.assertEqual(plain(size=4), (0, 1, 2, 3))

    def test_no_size(self):
        for at, size in enumerate(NO_SIZES):
            with self.subTest(at=at):
                refused(self, NoSize, plain, size)


class Into(unittest.TestCase):
    def test_told_examples(self):
        self.assertEqual(into((1, 0), (1, 0)), (0, 1))
        self.assertEqual(into((1, 2, 0), (1, 0, 2)), (2, 1, 0))
        self.assertEqual(into((1, 0, 2), (1, 2, 0)), (0, 2, 1))
        self.assertEqual(into((3, 0, 1, 2), (1, 0, 2, 3)), (0, 3, 1, 2))
        self.assertEqual(into((1, 2, 3, 4, 0), (0, 2, 1, 3, 4)), (1, 3, 2, 4, 0))

    def test_at_each_spot_what_one_tells_at_what_the_other_tells(self):
        for size in SIZES:
            for one in ALL[size]:
                for other in ALL[size][::1 if size < 5 else 7]:
                    told = into(one, other)
                    self.assertIs(type(told), tuple)
                    self.assertEqual(told, composed(one, other))

    def test_by_name(self):
        self.assertEqual(into(other=(1, 0, 2), one=(1, 2, 0)), (2, 1, 0))

    def test_no_turn(self):
        for at, thing in enumerate(NO_TURNS):
            for size in SIZES:
                with self.subTest(at=at, size=size):
                    refused(self, NoTurn, into, thing, plain_of(size))
                    refused(self, NoTurn, into, plain_of(size), thing)
                    refused(self, NoTurn, into, thing, thing)

    def test_unlike_sizes(self):
        for size in SIZES:
            for other in SIZES:
                if size != other:
                    refused(self, NoTurn, into, ALL[size][-1], ALL[other][-1])
                    refused(self, NoTurn, into, plain_of(size), plain_of(other))


class Undone(unittest.TestCase):
    def test_put_in_either_way_is_plain(self):
        for size in SIZES:
            for turn in ALL[size]:
                told = undone(turn)
                self.assertIs(type(told), tuple)
                self.assertEqual(composed(told, turn), plain_of(size))
                self.assertEqual(composed(turn, told), plain_of(size))

    def test_told_examples(self):
        self.assertEqual(undone((1, 2, 0)), (2, 0, 1))
        self.assertEqual(undone(turn=(1, 2, 3, 4, 0)), (4, 0, 1, 2, 3))

    def test_no_turn(self):
        for at, thing in enumerate(NO_TURNS):
            with self.subTest(at=at):
                refused(self, NoTurn, undone, thing)


class Times(unittest.TestCase):
    def test_small_numbers(self):
        for size in SIZES:
            for turn in ALL[size]:
                for n in range(-8, 9):
                    told = times(turn, n)
                    self.assertIs(type(told), tuple)
                    self.assertEqual(told, power(turn, n), (turn, n))

    def test_nought_is_plain(self):
        for size in SIZES:
            for turn in ALL[size]:
                self.assertEqual(times(turn, 0), plain_of(size))

    def test_very_great_numbers(self):
        # 60 is a number of whole rounds of each turn of these sizes.
        for n in [10 ** 9 + 7, 10 ** 40 + 1, -10 ** 40 - 3, 2 ** 6000 + 1, -(3 ** 9000) - 2, 10 ** 5000 - 1]:
            for size in SIZES:
                for turn in ALL[size]:
                    self.assertEqual(times(turn, n), power(turn, n % 60))

    def test_by_name(self):
        self.assertEqual(times(n=-1, turn=(1, 2, 0)), (2, 0, 1))

    def test_no_turn(self):
        for at, thing in enumerate(NO_TURNS):
            for n in (0, 1, -1, 10 ** 30):
                with self.subTest(at=at, n=n):
                    refused(self, NoTurn, times, thing, n)


class Order(unittest.TestCase):
    def test_the_least_that_is_plain(self):
        for size in SIZES:
            for turn in ALL[size]:
                many = order(turn)
                self.assertIs(type(many), int)
                powers = [power(turn, n) == plain_of(size) for n in range(1, many + 1)]
                self.assertEqual(powers, [False] * (many - 1) + [True])

    def test_how_many_have_which(self):
        for size in SIZES:
            told = [order(turn) for turn in ALL[size]]
            self.assertEqual({many: told.count(many) for many in told}, ORDERS[size])

    def test_by_name(self):
        self.assertEqual(order(turn=(1, 0, 3, 4, 2)), 6)

    def test_no_turn(self):
        for at, thing in enumerate(NO_TURNS):
            with self.subTest(at=at):
                refused(self, NoTurn, order, thing)


class Sign(unittest.TestCase):
    def test_greater_ahead_of_lesser(self):
        for size in SIZES:
            for turn in ALL[size]:
                many = sum(1 for k in range(size) for j in range(k) if turn[j] > turn[k])
                told = sign(turn)
                self.assertIs(type(told), int)
                self.assertEqual(told, -1 if many % 2 else 1, turn)

    def test_told_examples(self):
        self.assertEqual([sign((0, 1)), sign((1, 0)), sign((1, 2, 0)), sign((2, 1, 0))], [1, -1, 1, -1])
        self.assertEqual([sign((3, 2, 1, 0)), sign((1, 2, 3, 0)), sign(turn=(1, 0, 3, 4, 2))], [1, -1, -1])

    def test_no_turn(self):
        for at, thing in enumerate(NO_TURNS):
            with self.subTest(at=at):
                refused(self, NoTurn, sign, thing)


if __name__ == "__main__":
    unittest.main()
