"""[2.1] and the interface below it."""

import unittest
from itertools import combinations, product

from tests.things import (
    ALL, GROUPS, NO_GROUPS, NO_LISTS, NO_SIZES, NO_TURNS, SEEDS, SIZES, closure, composed, inverse, plain_of, refused,
)
from turncoats.errors import NoGroup, NoSize, NoTurn
from turncoats.groups import commuted, is_group, leadings, lot, lots, made, thirds, word

TRIVIAL = {size: (plain_of(size),) for size in SIZES}
WHOLE = {size: tuple(ALL[size]) for size in SIZES}
EVEN = {size: closure([composed(a, b) for a in SWAPS for b in SWAPS], size)
        for size in SIZES
        for SWAPS in [[turn for turn in ALL[size] if sum(turn[k] != k for k in range(size)) == 2]]}
FOUR = ((0, 1, 2, 3), (1, 0, 3, 2), (2, 3, 0, 1), (3, 2, 1, 0))
SQUARE = closure([(1, 2, 3, 0), (2, 1, 0, 3)], 4)


def best_words(turns, size, longest):
    """The least of the shortest words to all turns, found by going over all words, length by length."""
    letters = sorted((k, way) for k in range(len(turns)) for way in (1, -1))
    found = {plain_of(size): []}
    level = {plain_of(size): []}
    for _ in range(longest):
        more = {}
        for turn, row in level.items():
            for k, way in letters:
                behind = composed(turn, turns[k] if way == 1 else inverse(turns[k]))
                longer = row + [(k, way)]
                if behind not in more or longer < more[behind]:
                    more[behind] = longer
        level = more
        for turn, row in level.items():
            found.setdefault(turn, row)
    return found


def homs(group, rest):
    """All leadings to numbers below rest, of all dicts there could be, as rows of what they tell."""
    pairs = [(group.index(a), group.index(b), group.index(composed(a, b))) for a in group for b in group]
    return [row for row in product(range(rest), repeat=len(group))
            if all((row[a] + row[b]) % rest == row[c] for a, b, c in pairs)]


class Made(unittest.TestCase):
    def test_what_comes_of_a_list(self):
        for size in SIZES:
            for turns in SEEDS[size]:
                told = made(turns, size)
                self.assertIs(type(told), tuple)
                self.assertTrue(all(type(turn) is tuple for turn in told))
                self.assertEqual(told, closure(turns, size))

    def test_of_none_comes_the_plain_one(self):
        for size in SIZES:
            self.assertEqual(made([], size), TRIVIAL[size])
            self.assertEqual(made((), size), TRIVIAL[size])

    def test_all_turns_come_of_two(self):
        for size in SIZES:
            swap = (1, 0) + tuple(range(2, size))
            about = tuple(range(1, size)) + (0,)
            self.assertEqual(made([swap, about], size), WHOLE[size])
            self.assertEqual(made(WHOLE[size][::-1], size), WHOLE[size])
        self.assertEqual(len(made([(1, 0, 2, 3, 4), (1, 2, 3, 4, 0)], 5)), 120)

    def test_twice_the_same_and_the_plain_one(self):
        self.assertEqual(made([(1, 2, 0), (0, 1, 2), (1, 2, 0)], 3), ((0, 1, 2), (1, 2, 0), (2, 0, 1)))

    def test_a_tuple_in_the_lists_place_by_name_and_nothing_changed(self):
        turns = [(1, 2, 0), (1, 0, 2)]
        self.assertEqual(made(tuple(turns), 3), WHOLE[3])
        self.assertEqual(made(size=3, turns=turns), WHOLE[3])
        self.assertEqual(turns, [(1, 2, 0), (1, 0, 2)])

    def test_no_list(self):
        for at, thing in enumerate(NO_LISTS):
            for size in SIZES:
                with self.subTest(at=at, size=size):
                    refused(self, NoTurn, made, thing, size)

    def test_no_turn_in_it(self):
        for at, thing in enumerate(NO_TURNS):
            for size in SIZES:
                with self.subTest(at=at, size=size):
                    refused(self, NoTurn, made, [thing], size)
                    refused(self, NoTurn, made, [plain_of(size), thing], size)
                    refused(self, NoTurn, made, (thing, plain_of(size)), size)

    def test_a_turn_is_no_list_of_turns(self):
        refused(self, NoTurn, made, (1, 0, 2), 3)
        refused(self, NoTurn, made, [1, 0, 2], 3)

    def test_no_size(self):
        for at, size in enumerate(NO_SIZES):
            for turns in ([], [(0, 1)], [(1, 0), (1, 0, 2)], ((0, 1, 2),)):
                with self.subTest(at=at):
                    refused(self, NoSize, made, turns, size)

    def test_no_turn_comes_ahead_of_no_size(self):
        for at, size in enumerate(NO_SIZES):
            for turns in (None, "01", {}, [None], [(0, 1), (0, 0)], [[0, 1]], (True, False), [(0, True)]):
                with self.subTest(at=at):
                    refused(self, NoTurn, made, turns, size)

    def test_of_another_size(self):
        for size in SIZES:
            for other in SIZES:
                if size != other:
                    refused(self, NoTurn, made, [plain_of(other)], size)
                    refused(self, NoTurn, made, [plain_of(size), ALL[other][-1]], size)


class IsGroup(unittest.TestCase):
    def test_groups_are_ones_of_their_size_alone(self):
        for size in SIZES:
            for group in GROUPS[size]:
                for other in SIZES:
                    self.assertIs(is_group(group, other), size == other)
            self.assertIs(is_group(WHOLE[size], size), True)

    def test_all_there_are_of_size_two_and_three(self):
        for size, many in ((2, 2), (3, 6)):
            found = [row for n in range(len(ALL[size]) + 1) for row in combinations(ALL[size], n)
                     if is_group(row, size)]
            self.assertEqual(found, [row for row in found if row == closure(row, size)])
            self.assertEqual(len(found), many)

    def test_how_many_come_of_two_turns_of_size_four(self):
        found = {made([a, b], 4) for a in ALL[4] for b in ALL[4]}
        self.assertEqual(len(found), 30)
        self.assertTrue(all(is_group(group, 4) for group in found))

    def test_one_turn_less_or_more(self):
        for size in SIZES:
            for group in GROUPS[size]:
                for at in range(len(group)):
                    less = group[:at] + group[at + 1:]
                    self.assertIs(is_group(less, size), less in GROUPS[size] or less == closure(less, size))
                    twice = group[:at] + group[at:at + 1] + group[at:]
                    self.assertIs(is_group(twice, size), False)

    def test_nothing_else_is_one(self):
        for at, thing in enumerate(NO_GROUPS):
            for size in SIZES:
                with self.subTest(at=at, size=size):
                    self.assertIs(is_group(thing, size), False)

    def test_lists_and_orders(self):
        for size in SIZES:
            for group in GROUPS[size]:
                self.assertIs(is_group(list(group), size), False)
                self.assertIs(is_group(tuple(list(turn) for turn in group), size), False)
                self.assertIs(is_group(group[::-1], size), len(group) == 1)

    def test_no_size(self):
        for at, size in enumerate(NO_SIZES):
            for thing in (TRIVIAL[2], WHOLE[3], None, [], ()):
                with self.subTest(at=at):
                    refused(self, NoSize, is_group, thing, size)

    def test_by_name(self):
        self.assertIs(is_group(size=2, thing=((0, 1), (1, 0))), True)


class Word(unittest.TestCase):
    def test_the_least_of_the_shortest(self):
        for size in SIZES:
            for turns in SEEDS[size]:
                best = best_words(turns, size, 12)
                for goal in ALL[size]:
                    told = word(turns, goal)
                    self.assertEqual(told, best.get(goal), (turns, goal))
                    if told is not None:
                        self.assertIs(type(told), list)
                        self.assertTrue(all(type(pair) is tuple for pair in told))

    def test_by_going_over_all_words(self):
        turns = [(1, 2, 0, 3), (0, 2, 3, 1), (1, 0, 2, 3)]
        letters = sorted((k, way) for k in range(3) for way in (-1, 1))
        least = {}
        for n in range(4):
            for row in product(letters, repeat=n):
                at = plain_of(4)
                for k, way in row:
                    at = composed(at, turns[k] if way == 1 else inverse(turns[k]))
                least.setdefault(at, list(row))
        for goal, row in least.items():
            self.assertEqual(word(turns, goal), row)
        self.assertGreater(len(least), 20)

    def test_the_plain_goal(self):
        for size in SIZES:
            for turns in SEEDS[size] + [[plain_of(size)], ALL[size]]:
                self.assertEqual(word(turns, plain_of(size)), [])

    def test_what_can_not_be_come_to(self):
        for size in SIZES:
            self.assertIs(word([], ALL[size][1]), None)
            self.assertIs(word([plain_of(size)], ALL[size][-1]), None)
        self.assertIs(word([(1, 2, 0)], (1, 0, 2)), None)
        self.assertIs(word([(1, 0, 2, 3), (0, 1, 3, 2)], (1, 2, 3, 0)), None)
        self.assertIs(word([(1, 2, 0, 3, 4), (1, 2, 3, 4, 0)], (1, 0, 2, 3, 4)), None)

    def test_undone_is_ahead(self):
        self.assertEqual(word([(1, 0)], (1, 0)), [(0, -1)])
        self.assertEqual(word([(1, 2, 0)], (1, 2, 0)), [(0, 1)])
        self.assertEqual(word([(1, 2, 0)], (2, 0, 1)), [(0, -1)])
        self.assertEqual(word([(1, 2, 3, 0)], (2, 3, 0, 1)), [(0, -1), (0, -1)])
        self.assertEqual(word([(1, 2, 0), (2, 0, 1)], (1, 2, 0)), [(0, 1)])
        self.assertEqual(word([(2, 0, 1), (1, 2, 0)], (1, 2, 0)), [(0, -1)])

    def test_shorter_is_ahead_of_lesser(self):
        self.assertEqual(word([(1, 2, 3, 0), (2, 3, 0, 1)], (2, 3, 0, 1)), [(1, -1)])
        self.assertEqual(word([(1, 2, 3, 4, 0), (2, 3, 4, 0, 1)], (2, 3, 4, 0, 1)), [(1, 1)])

    def test_alike_turns_and_the_plain_one(self):
        self.assertEqual(word([(1, 2, 0), (1, 2, 0), (2, 0, 1)], (2, 0, 1)), [(0, -1)])
        self.assertEqual(word([(0, 1, 2), (1, 2, 0), (1, 2, 0)], (1, 2, 0)), [(1, 1)])
        self.assertEqual(word([(1, 0, 2), (1, 0, 2), (0, 2, 1), (0, 2, 1)], (1, 2, 0)), [(0, -1), (2, -1)])

    def test_what_is_ahead_stands_first(self):
        turns = [(1, 0, 2), (0, 2, 1)]
        self.assertEqual(word(turns, composed(*turns)), [(0, -1), (1, -1)])
        self.assertEqual(word(turns, composed(*turns[::-1])), [(1, -1), (0, -1)])

    def test_of_all_turns(self):
        for size in SIZES:
            for goal in ALL[size][1:]:
                at = min(ALL[size].index(goal), ALL[size].index(inverse(goal)))
                self.assertEqual(word(ALL[size], goal), [(at, 1 if ALL[size][at] != inverse(goal) else -1)])

    def test_a_tuple_in_the_lists_place_by_name_and_nothing_changed(self):
        turns = [(1, 2, 0), (1, 0, 2)]
        told = word(turns, (2, 0, 1))
        told.append("more")
        self.assertEqual(turns, [(1, 2, 0), (1, 0, 2)])
        self.assertEqual(word(goal=(2, 0, 1), turns=tuple(turns)), [(0, -1)])
        word(turns, (0, 1, 2)).append("more")
        self.assertEqual(word(turns, (0, 1, 2)), [])

    def test_no_list(self):
        for at, thing in enumerate(NO_LISTS):
            for goal in [(0, 1), (2, 0, 1), None]:
                with self.subTest(at=at):
                    refused(self, NoTurn, word, thing, goal)

    def test_no_turn(self):
        for at, thing in enumerate(NO_TURNS):
            for size in SIZES:
                with self.subTest(at=at, size=size):
                    refused(self, NoTurn, word, [ALL[size][1]], thing)
                    refused(self, NoTurn, word, [], thing)
                    refused(self, NoTurn, word, [thing], plain_of(size))
                    refused(self, NoTurn, word, [ALL[size][1], thing], ALL[size][1])
        refused(self, NoTurn, word, (1, 0), (1, 0))

    def test_unlike_sizes(self):
        for size in SIZES:
            for other in SIZES:
                if size != other:
                    refused(self, NoTurn, word, [plain_of(size)], plain_of(other))
                    refused(self, NoTurn, word, [ALL[size][1], ALL[other][1]], ALL[size][1])
                    refused(self, NoTurn, word, [ALL[size][1], plain_of(other)], plain_of(size))


class Lot(unittest.TestCase):
    def test_the_turn_with_each_put_into_it(self):
        for size in SIZES:
            for group in GROUPS[size]:
                for turn in ALL[size][::1 if size < 5 else 11]:
                    told = lot(turn, group)
                    self.assertIs(type(told), tuple)
                    self.assertTrue(all(type(one) is tuple for one in told))
                    self.assertEqual(told, tuple(sorted(composed(turn, one) for one in group)))

    def test_not_the_other_way_about(self):
        self.assertEqual(lot((1, 2, 0), ((0, 1, 2), (1, 0, 2))), ((1, 2, 0), (2, 1, 0)))
        self.assertEqual(lot(group=((0, 1, 2), (0, 2, 1)), turn=(2, 0, 1)), ((2, 0, 1), (2, 1, 0)))

    def test_no_turn_comes_ahead_of_no_group(self):
        for at, thing in enumerate(NO_TURNS):
            with self.subTest(at=at):
                for group in (TRIVIAL[2], WHOLE[3], None, [], ()):
                    refused(self, NoTurn, lot, thing, group)

    def test_no_group(self):
        for at, thing in enumerate(NO_GROUPS):
            for size in SIZES:
                with self.subTest(at=at, size=size):
                    refused(self, NoGroup, lot, ALL[size][-1], thing)

    def test_another_sizes(self):
        for size in SIZES:
            for other in SIZES:
                if size != other:
                    refused(self, NoGroup, lot, plain_of(size), TRIVIAL[other])
                    refused(self, NoGroup, lot, ALL[size][-1], WHOLE[other])


class Lots(unittest.TestCase):
    def test_all_there_are_rising(self):
        for size in SIZES:
            for group in GROUPS[size]:
                told = lots(group, size)
                self.assertIs(type(told), list)
                self.assertEqual(told, sorted({tuple(sorted(composed(turn, one) for one in group))
                                               for turn in ALL[size]}))
                self.assertEqual(sorted(turn for row in told for turn in row), ALL[size])

    def test_by_the_least_and_by_the_greatest_group(self):
        for size in SIZES:
            self.assertEqual(lots(TRIVIAL[size], size), [(turn,) for turn in ALL[size]])
            self.assertEqual(lots(WHOLE[size], size), [WHOLE[size]])

    def test_a_new_list_and_by_name(self):
        group = ((0, 1, 2), (1, 0, 2))
        told = lots(group, 3)
        self.assertEqual(told, [((0, 1, 2), (1, 0, 2)), ((0, 2, 1), (2, 0, 1)), ((1, 2, 0), (2, 1, 0))])
        told.clear()
        self.assertEqual(len(lots(size=3, group=group)), 3)

    def test_no_size_comes_ahead_of_no_group(self):
        for at, size in enumerate(NO_SIZES):
            for group in (TRIVIAL[2], WHOLE[3], None, [], (), "group"):
                with self.subTest(at=at):
                    refused(self, NoSize, lots, group, size)

    def test_no_group(self):
        for at, thing in enumerate(NO_GROUPS):
            for size in SIZES:
                with self.subTest(at=at, size=size):
                    refused(self, NoGroup, lots, thing, size)

    def test_another_sizes(self):
        for size in SIZES:
            for other in SIZES:
                if size != other:
                    refused(self, NoGroup, lots, TRIVIAL[other], size)
                    refused(self, NoGroup, lots, WHOLE[other], size)


class Commuted(unittest.TestCase):
    def test_what_comes_of_all_pairs(self):
        for size in SIZES:
            for group in GROUPS[size]:
                told = commuted(group)
                pairs = {composed(composed(composed(a, b), inverse(a)), inverse(b)) for a in group for b in group}
                self.assertEqual(told, closure(sorted(pairs), size))
                self.assertIs(type(told), tuple)

    def test_told_examples(self):
        self.assertEqual(commuted(WHOLE[2]), TRIVIAL[2])
        self.assertEqual(commuted(WHOLE[3]), EVEN[3])
        self.assertEqual(commuted(EVEN[3]), TRIVIAL[3])
        self.assertEqual(commuted(WHOLE[4]), EVEN[4])
        self.assertEqual(commuted(EVEN[4]), FOUR)
        self.assertEqual(commuted(FOUR), TRIVIAL[4])
        self.assertEqual(commuted(SQUARE), ((0, 1, 2, 3), (2, 3, 0, 1)))
        self.assertEqual(commuted(WHOLE[5]), EVEN[5])
        self.assertEqual(commuted(group=EVEN[5]), EVEN[5])

    def test_no_group(self):
        for at, thing in enumerate(NO_GROUPS):
            with self.subTest(at=at):
                refused(self, NoGroup, commuted, thing)


class Led:
    """What holds of leadings to signs and of those to thirds, rest by rest."""

    def test_of_all_dicts_there_could_be(self):
        for size in SIZES:
            for group in GROUPS[size]:
                if len(group) <= 8 and self.rest ** len(group) < 7000:
                    told = self.asked(group)
                    self.assertEqual([[row[turn] for turn in group] for row in told],
                                     [[self.values[n] for n in row] for row in homs(group, self.rest)])

    def test_each_is_one_and_they_are_in_order(self):
        for size in SIZES:
            for group in GROUPS[size]:
                told = self.asked(group)
                self.assertIs(type(told), list)
                rows = []
                for row in told:
                    self.assertIs(type(row), dict)
                    self.assertEqual(list(row), list(group))
                    self.assertTrue(all(type(turn) is tuple for turn in row))
                    self.assertTrue(all(type(n) is int and n in self.values for n in row.values()))
                    self.assertTrue(all(row[composed(a, b)] == self.joined(row[a], row[b])
                                        for a in group for b in group))
                    rows.append([self.values.index(n) for n in row.values()])
                self.assertEqual(rows, sorted(rows))
                self.assertEqual(len({tuple(row) for row in rows}), len(rows))

    def test_how_many(self):
        for size in SIZES:
            self.assertEqual(len(self.asked(TRIVIAL[size])), 1)
        for group, many in self.many:
            self.assertEqual(len(self.asked(group)), many)

    def test_lists_and_dicts_are_the_askers_own(self):
        group = closure([(1, 0, 3, 4, 2)], 5)
        told = self.asked(group)
        told[-1].clear()
        told[0][plain_of(5)] = "changed"
        told.append({})
        again = self.asked(group)
        self.assertEqual(len(again), len(told) - 1)
        self.assertEqual(set(again[0].values()), {self.values[0]})
        self.assertEqual([len(row) for row in again], [6] * len(again))

    def test_no_group(self):
        for at, thing in enumerate(NO_GROUPS):
            with self.subTest(at=at):
                refused(self, NoGroup, self.asked, thing)


class Leadings(Led, unittest.TestCase):
    rest = 2
    values = [1, -1]
    many = [(WHOLE[2], 2), (WHOLE[3], 2), (EVEN[3], 1), (WHOLE[4], 2), (EVEN[4], 1), (FOUR, 4), (SQUARE, 4),
            (WHOLE[5], 2), (EVEN[5], 1), (closure([(1, 0, 2, 3, 4), (0, 1, 3, 4, 2), (0, 1, 3, 2, 4)], 5), 4),
            (closure([(1, 2, 3, 4, 0), (0, 2, 4, 1, 3)], 5), 2), (closure([(1, 0, 3, 4, 2)], 5), 2)]

    def asked(self, group):
        return leadings(group)

    def joined(self, one, other):
        return one * other

    def test_told_examples(self):
        self.assertEqual(leadings(group=((0, 1), (1, 0))), [{(0, 1): 1, (1, 0): 1}, {(0, 1): 1, (1, 0): -1}])
        told = [list(row.values()) for row in leadings(FOUR)]
        self.assertEqual(told, [[1, 1, 1, 1], [1, 1, -1, -1], [1, -1, 1, -1], [1, -1, -1, 1]])
        for size in SIZES:
            odd = {turn: 1 if turn in EVEN[size] else -1 for turn in WHOLE[size]}
            self.assertEqual(leadings(WHOLE[size]), [{turn: 1 for turn in WHOLE[size]}, odd])


class Thirds(Led, unittest.TestCase):
    rest = 3
    values = [0, 1, 2]
    many = [(WHOLE[2], 1), (WHOLE[3], 1), (EVEN[3], 3), (WHOLE[4], 1), (EVEN[4], 3), (FOUR, 1), (SQUARE, 1),
            (WHOLE[5], 1), (EVEN[5], 1), (closure([(1, 0, 2, 3, 4), (0, 1, 3, 4, 2), (0, 1, 3, 2, 4)], 5), 1),
            (closure([(1, 0, 3, 4, 2)], 5), 3), (closure([(1, 2, 0, 3, 4), (0, 2, 3, 1, 4)], 5), 3)]

    def asked(self, group):
        return thirds(group)

    def joined(self, one, other):
        return (one + other) % 3

    def test_told_examples(self):
        told = [list(row.values()) for row in thirds(group=EVEN[3])]
        self.assertEqual(told, [[0, 0, 0], [0, 1, 2], [0, 2, 1]])
        self.assertEqual(thirds(WHOLE[3]), [{turn: 0 for turn in ALL[3]}])
        for row in thirds(EVEN[4]):
            self.assertEqual([row[turn] for turn in FOUR], [0, 0, 0, 0])


if __name__ == "__main__":
    unittest.main()
