"""[4.1] to [4.3] and the interface below them."""

import unittest
from itertools import combinations, permutations

from tests.nets import (
    ANYTHING, NO_PLACES, SHAPES, WEBS, beside_of, brute_parts, pairs_of, simple_walks, some_webs, web_by, web_of,
)
from tests.things import refused
from turncoats.errors import NoPart, NoPlace
from turncoats.parts import kind, parts, root, round_of

MANY_WEBS = [*WEBS.values(), *some_webs(120)]

# What the document's words tell, by hand: the parts of the shapes with their kinds.
TOLD = {
    "way": {(0, 1): "way"},
    "nothing": {},
    "row": {(0, 1): "way", (1, 2): "way", (2, 3): "way"},
    "star": {(0, 4): "way", (1, 4): "way", (2, 4): "way", (3, 4): "way"},
    "round of three": {(0, 1, 2): "round"},
    "round of four": {(0, 1, 2, 3): "round"},
    "round of six": {(0, 1, 2, 3, 4, 5): "round"},
    "round of eight": {(0, 1, 2, 3, 4, 5, 6, 7): "round"},
    "five": {(0, 1, 2, 3, 4): "five"},
    "five otherwise": {(0, 1, 2, 3, 4): "five"},
    "five in more": {(0, 1, 2, 3, 4): "five", (4, 5): "way", (5, 6): "way"},
    "five behind others": {(0, 1): "way", (1, 2): "way", (2, 3, 4, 5, 6): "five"},
    "seven": {(0, 1, 2, 3, 4, 5, 6): "seven"},
    "seven otherwise": {(0, 1, 2, 3, 4, 5, 6): "seven"},
    "seven in more": {(0, 1, 2, 3, 4, 5, 6): "seven", (5, 7): "way"},
    "seven behind another": {(0, 1): "way", (1, 2, 3, 4, 5, 6, 7): "seven"},
    "near a five: two joined": {(0, 1, 2, 3, 4): "web"},
    "near a five: three joined": {(0, 1, 2, 3, 4): "web"},
    "near a five: a house": {(0, 1, 2, 3, 4): "web"},
    "near a five: six": {(0, 1, 2, 3, 4, 5): "web"},
    "near a seven: beside one another": {(0, 1, 2, 3, 4, 5, 6): "web"},
    "near a seven: one between": {(0, 1, 2, 3, 4, 5, 6): "web"},
    "near a seven: three ways": {(0, 1, 2, 3, 4, 5, 6): "web"},
    "near a seven: across without it": {(0, 1, 2, 3, 4, 5, 6): "web"},
    "near a seven: a way more": {(0, 1, 2, 3, 4, 5, 6): "web"},
    "near a seven: two threes": {(0, 1, 2): "round", (0, 6): "way", (3, 4, 5): "round", (3, 6): "way"},
    "near a seven: a web of six": {(0, 1, 2, 3, 4, 5): "web"},
    "all of four": {(0, 1, 2, 3): "web"},
    "all of six": {(0, 1, 2, 3, 4, 5): "web"},
    "cube": {(0, 1, 2, 3, 4, 5, 6, 7): "web"},
    "two rounds at a place": {(0, 1, 2): "round", (2, 3, 4): "round"},
    "three rounds at a place": {(0, 1, 2): "round", (2, 3, 4): "round", (2, 5, 6): "round"},
    "rounds, a way between": {(0, 1, 2): "round", (2, 3): "way", (3, 4, 5): "round", (5, 6): "way"},
    "rounds apart": {(0, 1, 2): "round", (3, 4, 5, 6): "round"},
    "round and a tail to it": {(0, 1, 2): "round", (0, 3): "way", (3, 4): "way", (3, 5): "way"},
    "five and round": {(0, 1, 2, 3, 4): "five", (4, 5, 6): "round"},
    "sixteen ways": {(0, 1, 2, 3, 4, 5, 6, 7): "web"},
}


def brute_kind(web, part):
    """The kind by the document's words, over all orders of the places."""
    ways = {frozenset(way[:2]) for way in web.ways() if way[0] in part and way[1] in part}
    if len(part) == 2:
        return "way"
    if all(sum(place in way for way in ways) == 2 for place in part):
        return "round"
    for row in permutations(part):
        if len(part) == 5 and ways == {frozenset((a, b)) for a in row[:2] for b in row[2:]}:
            return "five"
        if len(part) == 7 and ways == {frozenset((row[k], row[(k + 1) % 6])) for k in range(6)} | {
                frozenset((row[6], row[0])), frozenset((row[6], row[3]))}:
            return "seven"
    return "web"


def no_parts(web):
    """Things that are no part of a web, though most are near to one."""
    told = brute_parts(web)
    found = [thing for thing in ANYTHING if thing not in told and thing != (False, True)]
    for part in told:
        found += [list(part), part[::-1], part[1:] + part[:1], part + part[-1:], part[:-1], part + (8,),
                  (-1,) + part[1:], {place: 1 for place in part}, str(part), (part,), tuple(map(str, part))]
        found += [(bool(part[0]), *part[1:])] if part[0] in (0, 1) else []
    found += [(False, True), (True, False), (False, True, 2), (0, True, 2, 3, 4)]
    for one, other in combinations(told, 2):
        found.append(tuple(sorted(set(one + other))))
        found.append(one + other)
    found.append(tuple((place,) for place in range(web.many())))
    if len(told) != 1:
        found.append(tuple(range(web.many())))
    return [thing for thing in found if not (thing in told and all(type(place) is int for place in thing))]


class Parts(unittest.TestCase):
    def test_told_examples(self):
        self.assertEqual(sorted(TOLD), sorted(SHAPES))
        for shape, told in TOLD.items():
            with self.subTest(shape):
                self.assertEqual(parts(web_of(shape)), sorted(told))

    def test_ways_are_tied_by_rounds(self):
        for web in MANY_WEBS:
            told = parts(web)
            self.assertEqual(told, brute_parts(web))
            self.assertIs(type(told), list)
            self.assertTrue(all(type(part) is tuple for part in told))

    def test_all_webs_of_four_places(self):
        pairs = list(combinations(range(4), 2))
        for many in range(len(pairs) + 1):
            for some in combinations(pairs, many):
                web = web_by(4, some)
                self.assertEqual(parts(web), brute_parts(web))

    def test_two_share_one_place_at_most(self):
        for web in MANY_WEBS:
            for one, other in combinations(parts(web), 2):
                self.assertLessEqual(len(set(one) & set(other)), 1)

    def test_the_list_is_the_askers_own_and_by_name(self):
        web = web_of("row")
        parts(web).clear()
        self.assertEqual(parts(web=web), [(0, 1), (1, 2), (2, 3)])


class Kind(unittest.TestCase):
    def test_told_examples(self):
        for shape, told in TOLD.items():
            web = web_of(shape)
            with self.subTest(shape):
                self.assertEqual({part: kind(web, part) for part in parts(web)}, told)
        self.assertEqual(kind(part=(0, 1), web=web_of("way")), "way")

    def test_all_webs_of_five_places_that_are_one_part(self):
        pairs = list(combinations(range(5), 2))
        found = []
        for many in range(5, len(pairs) + 1):
            for some in combinations(pairs, many):
                web = web_by(5, some)
                if parts(web) == [(0, 1, 2, 3, 4)]:
                    found.append(kind(web, (0, 1, 2, 3, 4)))
                    self.assertEqual(found[-1], brute_kind(web, (0, 1, 2, 3, 4)))
        self.assertEqual({one: found.count(one) for one in found}, {"round": 12, "five": 10, "web": 216})

    def test_sevens_in_any_order_and_what_is_near(self):
        for shape in [shape for shape in SHAPES if "seven" in shape and "six" not in shape]:
            many, pairs = pairs_of(shape)
            for row in list(permutations(range(many)))[::911]:
                web = web_by(many, [(row[one], row[other]) for one, other in pairs])
                for part in parts(web):
                    self.assertEqual(kind(web, part), brute_kind(web, part))

    def test_what_comes_of_a_seven_by_one_way_more(self):
        _, pairs = pairs_of("seven")
        for one, other in combinations(range(7), 2):
            if (one, other) not in pairs and (other, one) not in pairs:
                self.assertEqual(kind(web_by(7, pairs + [(one, other)]), tuple(range(7))), "web")

    def test_any_webs(self):
        for web in MANY_WEBS:
            for part in parts(web):
                self.assertEqual(kind(web, part), brute_kind(web, part))

    def test_no_part(self):
        for shape in SHAPES:
            web = web_of(shape)
            for at, thing in enumerate(no_parts(web)):
                with self.subTest(shape, at=at):
                    refused(self, NoPart, kind, web, thing)


class Root(unittest.TestCase):
    def test_each_walk_comes_to_it_first(self):
        for web in MANY_WEBS[::2]:
            if len(web.ways()) > 12:
                continue
            for place in range(web.many()):
                rows = simple_walks(web, place)
                for part in parts(web):
                    first = {next(one for one in row if one in part) for row in rows if set(row) & set(part)}
                    if first:
                        self.assertEqual(first, {root(web, part, place)})
                    else:
                        self.assertEqual(refused(self, NoPlace, root, web, part, place).place, place)

    def test_itself_where_it_is_of_the_part(self):
        for web in MANY_WEBS:
            for part in parts(web):
                self.assertEqual([root(web, part, place) for place in part], list(part))

    def test_told_examples(self):
        web = web_of("rounds, a way between")
        self.assertEqual([root(web, (0, 1, 2), place) for place in range(7)], [0, 1, 2, 2, 2, 2, 2])
        self.assertEqual([root(web, (2, 3), place) for place in range(7)], [2, 2, 2, 3, 3, 3, 3])
        self.assertEqual([root(web, (3, 4, 5), place) for place in range(7)], [3, 3, 3, 3, 4, 5, 5])
        self.assertEqual(root(place=0, part=(5, 6), web=web), 5)

    def test_a_place_that_is_not_joined_to_the_part(self):
        web = web_of("rounds apart")
        for part, places in [((0, 1, 2), (3, 4, 5, 6, 7)), ((3, 4, 5, 6), (0, 1, 2, 7))]:
            for place in places:
                self.assertEqual(refused(self, NoPlace, root, web, part, place).place, place)

    def test_a_place_that_is_none(self):
        web = web_of("five in more")
        for at, place in enumerate([7, *NO_PLACES]):
            with self.subTest(at=at):
                self.assertIs(refused(self, NoPlace, root, web, (0, 1, 2, 3, 4), place).place, place)
        self.assertIs(refused(self, NoPlace, root, web, (0, 1, 2, 3, 4), True).place, True)

    def test_no_part_comes_ahead_of_no_place(self):
        for shape in SHAPES:
            web = web_of(shape)
            for at, thing in enumerate(no_parts(web)):
                with self.subTest(shape, at=at):
                    refused(self, NoPart, root, web, thing, 0)
                    refused(self, NoPart, root, web, thing, None)


class RoundOf(unittest.TestCase):
    def test_from_the_least_on_the_lesser_next(self):
        for web in MANY_WEBS:
            beside = beside_of(web)
            for part in parts(web):
                if brute_kind(web, part) == "round":
                    row = round_of(web, part)
                    self.assertIs(type(row), tuple)
                    self.assertEqual(sorted(row), list(part))
                    self.assertTrue(all(row[k - 1] in beside[row[k]] for k in range(len(row))))
                    self.assertEqual(row[0], part[0])
                    self.assertLess(row[1], row[-1])

    def test_told_examples(self):
        self.assertEqual(round_of(web_of("round of three"), (0, 1, 2)), (0, 1, 2))
        self.assertEqual(round_of(web_of("round of four"), (0, 1, 2, 3)), (0, 2, 1, 3))
        self.assertEqual(round_of(web_of("round of six"), (0, 1, 2, 3, 4, 5)), (0, 4, 2, 1, 3, 5))
        self.assertEqual(round_of(part=tuple(range(8)), web=web_of("round of eight")), (0, 3, 6, 1, 4, 7, 2, 5))
        self.assertEqual(round_of(web_of("five and round"), (4, 5, 6)), (4, 5, 6))

    def test_a_part_of_another_kind(self):
        for web in MANY_WEBS:
            for part in parts(web):
                if brute_kind(web, part) != "round":
                    refused(self, NoPart, round_of, web, part)

    def test_no_part(self):
        for shape in SHAPES:
            web = web_of(shape)
            for at, thing in enumerate(no_parts(web)):
                with self.subTest(shape, at=at):
                    refused(self, NoPart, round_of, web, thing)
        refused(self, NoPart, round_of, web_of("near a seven: across without it"), (0, 1, 2, 3))
        refused(self, NoPart, round_of, web_of("all of four"), (0, 1, 2))


if __name__ == "__main__":
    unittest.main()
