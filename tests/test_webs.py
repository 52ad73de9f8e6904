"""[3.1] and what the interface tells of webs."""

import unittest
from itertools import combinations

from tests.nets import ANYTHING, NO_PLACES, WEBS, beside_of, simple_walks, some_webs
from tests.things import ALL, NO_LISTS, NO_SIZES, NO_TURNS, SIZES, inverse, plain_of, refused
from turncoats.errors import BadWeb, NoPlace, NoSize, NoWay
from turncoats.webs import Web

THIRD = (1, 2, 0)
WEB = Web(5, [(3, 1, THIRD), (0, 1, (0, 2, 1)), (2, 0, (2, 1, 0))])


class Made(unittest.TestCase):
    def test_each_number_of_places_and_each_size(self):
        for many in range(2, 9):
            for size in SIZES:
                web = Web(many, [(many - 1, 0, ALL[size][-1])], size=size)
                self.assertEqual((web.many(), web.size()), (many, size))
                self.assertEqual(web.ways(), [(0, many - 1, inverse(ALL[size][-1]))])

    def test_the_size_is_three_where_it_is_not_told(self):
        self.assertEqual(Web(4, []).size(), 3)
        self.assertEqual(Web(ways=[(0, 1, THIRD)], many=2), Web(2, [(0, 1, THIRD)], size=3))

    def test_the_size_goes_by_name_alone(self):
        with self.assertRaises(TypeError):
            Web(4, [], 3)

    def test_tuples_in_the_lists_place(self):
        ways = [(0, 1, THIRD), (2, 1, THIRD)]
        self.assertEqual(Web(3, tuple(ways)), Web(3, ways))
        self.assertEqual(Web(3, ()), Web(3, []))

    def test_sixteen_ways_and_one_more(self):
        pairs = list(combinations(range(8), 2))
        self.assertEqual(len(Web(8, [(*pair, THIRD) for pair in pairs[:16]]).ways()), 16)
        refused(self, BadWeb, Web, 8, [(*pair, THIRD) for pair in pairs[:17]])
        refused(self, BadWeb, Web, 8, [(*pair, THIRD) for pair in pairs])

    def test_each_turn(self):
        for size in SIZES:
            for turn in ALL[size]:
                web = Web(2, [(1, 0, turn)], size=size)
                self.assertEqual((web.turn(1, 0), web.turn(0, 1)), (turn, inverse(turn)))

    def test_the_list_may_be_changed_behind(self):
        ways = [(3, 1, THIRD), (0, 1, (0, 2, 1)), (2, 0, (2, 1, 0))]
        before = list(ways)
        web = Web(5, ways)
        self.assertEqual(ways, before)
        ways.append((3, 4, THIRD))
        ways[0] = (0, 4, THIRD)
        self.assertEqual(web, WEB)
        self.assertEqual(web.ways(), WEB.ways())


class Refused(unittest.TestCase):
    def test_no_size_is_ahead_of_anything_else(self):
        for at, size in enumerate(NO_SIZES):
            with self.subTest(at=at):
                refused(self, NoSize, Web, 3, [(0, 1, THIRD)], size=size)
                refused(self, NoSize, Web, 1, [], size=size)
                refused(self, NoSize, Web, None, None, size=size)
                refused(self, NoSize, Web, 3, [(0, 0, None)], size=size)

    def test_how_many(self):
        for at, many in enumerate([0, 1, 9, 10, -2, 10 ** 5000, *NO_PLACES, [3], (3,), "3", {3: 3}]):
            with self.subTest(at=at):
                refused(self, BadWeb, Web, many, [])
                refused(self, BadWeb, Web, many, [(0, 1, THIRD)])

    def test_ways_that_are_no_list(self):
        for at, ways in enumerate(NO_LISTS):
            with self.subTest(at=at):
                refused(self, BadWeb, Web, 3, ways)

    def test_a_way_that_is_no_tuple_or_of_another_length(self):
        for at, way in enumerate([
                *ANYTHING, [0, 1, THIRD], (0, 1), (0, 1, THIRD, 3), (0, 1, *THIRD), ((0, 1), THIRD), "011",
                {0: 0, 1: 1, 2: THIRD}, (0, 1, [1, 2, 0]), ((0, 1, THIRD),)]):
            with self.subTest(at=at):
                refused(self, BadWeb, Web, 3, [way])
                refused(self, BadWeb, Web, 3, [(0, 1, THIRD), way])
        refused(self, BadWeb, Web, 3, (0, 1, THIRD))

    def test_a_place_that_is_none(self):
        for at, place in enumerate([3, -3, 2 ** 70, *NO_PLACES]):
            with self.subTest(at=at):
                refused(self, BadWeb, Web, 3, [(place, 2, THIRD)])
                refused(self, BadWeb, Web, 3, [(2, place, THIRD)])
                refused(self, BadWeb, Web, 3, [(place, place, THIRD)])

    def test_unlike_places_are_wanted(self):
        for place in range(3):
            refused(self, BadWeb, Web, 3, [(place, place, (0, 1, 2))])

    def test_a_turn_that_is_none_or_of_another_size(self):
        for size in SIZES:
            for at, turn in enumerate(NO_TURNS):
                with self.subTest(size=size, at=at):
                    refused(self, BadWeb, Web, 3, [(0, 1, turn)], size=size)
            for other in SIZES:
                if other != size:
                    refused(self, BadWeb, Web, 3, [(0, 1, plain_of(other))], size=size)
                    refused(self, BadWeb, Web, 3, [(0, 2, ALL[size][-1]), (0, 1, ALL[other][-1])], size=size)
        refused(self, BadWeb, Web, 3, [(0, 1, (0, 1))])

    def test_two_ways_between_the_same_places(self):
        for more in [(0, 1, THIRD), (1, 0, THIRD), (0, 1, (0, 1, 2)), (1, 0, inverse(THIRD))]:
            refused(self, BadWeb, Web, 3, [(0, 1, THIRD), more])
            refused(self, BadWeb, Web, 3, [(2, 1, THIRD), (0, 1, THIRD), (0, 2, THIRD), more])


class Looks(unittest.TestCase):
    def test_ways_rise_one_below_other(self):
        self.assertEqual(WEB.ways(), [(0, 1, (0, 2, 1)), (0, 2, (2, 1, 0)), (1, 3, (2, 0, 1))])
        for web in WEBS.values():
            ways = web.ways()
            self.assertIs(type(ways), list)
            self.assertEqual(ways, sorted(ways))
            self.assertTrue(all(type(way) is tuple and type(way[2]) is tuple and way[0] < way[1] for way in ways))

    def test_ways_are_the_askers_own_list(self):
        WEB.ways().clear()
        WEB.ways().append((3, 4, THIRD))
        self.assertEqual(len(WEB.ways()), 3)

    def test_beside(self):
        self.assertEqual([WEB.beside(place) for place in range(5)], [[1, 2], [0, 3], [0], [1], []])
        WEB.beside(0).append(4)
        self.assertEqual(WEB.beside(place=0), [1, 2])
        for web in WEBS.values():
            told = beside_of(web)
            self.assertEqual([web.beside(place) for place in told], [sorted(told[place]) for place in told])

    def test_turn_from_either_end(self):
        self.assertEqual(WEB.turn(3, 1), THIRD)
        self.assertEqual(WEB.turn(1, 3), (2, 0, 1))
        self.assertEqual(WEB.turn(other=0, one=2), (2, 1, 0))
        for web in WEBS.values():
            for one, other, turn in web.ways():
                self.assertEqual((web.turn(one, other), web.turn(other, one)), (turn, inverse(turn)))

    def test_joined(self):
        self.assertEqual([WEB.joined(place) for place in range(5)], [(0, 1, 2, 3)] * 4 + [(4,)])
        self.assertEqual(WEB.joined(place=4), (4,))
        for web in [*WEBS.values(), *some_webs(60)]:
            for place in range(web.many()):
                ends = sorted({row[-1] for row in simple_walks(web, place)}) if len(web.ways()) < 13 else None
                self.assertIs(type(web.joined(place)), tuple)
                self.assertIn(ends, (list(web.joined(place)), None))

    def test_no_place(self):
        for at, place in enumerate([5, 2 ** 70, *NO_PLACES]):
            with self.subTest(at=at):
                self.assertIs(refused(self, NoPlace, WEB.beside, place).place, place)
                self.assertIs(refused(self, NoPlace, WEB.joined, place).place, place)
                self.assertIs(refused(self, NoPlace, WEB.turn, place, 0).place, place)
                self.assertIs(refused(self, NoPlace, WEB.turn, 0, place).place, place)
                self.assertIs(refused(self, NoPlace, WEB.turn, place, 17).place, place)

    def test_a_truth_is_no_place(self):
        self.assertIs(refused(self, NoPlace, WEB.turn, True, False).place, True)
        self.assertIs(refused(self, NoPlace, WEB.turn, 1, False).place, False)

    def test_no_way(self):
        for one in range(5):
            for other in range(5):
                if other not in beside_of(WEB)[one]:
                    raised = refused(self, NoWay, WEB.turn, one, other)
                    self.assertEqual((raised.one, raised.other), (one, other))


class Alike(unittest.TestCase):
    def test_where_many_size_and_ways_are(self):
        ways = [(0, 1, THIRD), (1, 2, (1, 0, 2))]
        web = Web(4, ways)
        for other in [Web(4, ways[::-1]), Web(4, [(1, 0, (2, 0, 1)), (2, 1, (1, 0, 2))], size=3), web]:
            self.assertTrue(web == other)
            self.assertFalse(web != other)

    def test_not_where_one_is_unlike(self):
        web = Web(4, [(0, 1, THIRD), (1, 2, (1, 0, 2))])
        for other in [Web(5, web.ways()), Web(4, [(0, 1, THIRD)]), Web(4, [(1, 0, THIRD), (1, 2, (1, 0, 2))]),
                      Web(4, [(0, 1, THIRD), (1, 3, (1, 0, 2))]), Web(4, [(0, 1, THIRD), (1, 2, (0, 1, 2))])]:
            self.assertFalse(web == other)
            self.assertTrue(web != other)
        self.assertFalse(Web(4, []) == Web(4, [], size=4))
        self.assertFalse(Web(4, []) == Web(3, []))

    def test_not_to_other_things(self):
        for at, thing in enumerate([*ANYTHING, WEB.ways(), 5]):
            with self.subTest(at=at):
                self.assertFalse(WEB == thing)
                self.assertTrue(WEB != thing)


if __name__ == "__main__":
    unittest.main()
