"""[7.1] and the interface below it."""

import unittest

from tests.nets import (
    ANYTHING, NO_PLACES, WEBS, brute_parts, simple_walks, some_walk, some_webs, standing_of, turn_of, web_of,
)
from tests.things import closure, composed, inverse, plain_of, refused
from turncoats.errors import NoName, NoPart, NoPlace, NoWay
from turncoats.groups import is_group
from turncoats.heights import group_of, heights, own_turn, own_way
from turncoats.standings import Standing
from turncoats.walks import walked
from turncoats.webs import Web

PLAIN, THIRD, SWAP = (0, 1, 2), (1, 2, 0), (1, 0, 2)
# A round of four places, a tail behind 3, and a place by itself.
WEB = Web(6, [(0, 1, THIRD), (1, 3, SWAP), (0, 2, (0, 2, 1)), (2, 3, PLAIN), (3, 4, THIRD)])
PART = (0, 1, 2, 3)
STANDING = Standing(WEB, {"a": (0, PLAIN), "b": (1, THIRD), "c": (2, SWAP), "d": (3, THIRD), "e": (5, PLAIN)})
MANY_WEBS = [web for web in [*WEBS.values(), *some_webs(60)] if len(web.ways()) <= 13]


def brute_heights(web, part, root):
    """The heights by the least of the shortest of all rows of unlike places within the part."""
    told = {root: plain_of(web.size())}
    rows = simple_walks(web, root, part)
    for place in part:
        row = min((len(row), row) for row in rows if row[-1] == place)[1]
        turn = plain_of(web.size())
        for one, other in zip(row, row[1:]):
            turn = composed(turn, turn_of(web, one, other))
        told[place] = turn
    return told


def each_root():
    for web in MANY_WEBS:
        for part in brute_parts(web):
            for root in part:
                yield web, part, root, brute_heights(web, part, root)


def own_ways_of(web, part, told):
    """All ways of a part from either end, with their own turns."""
    return {(one, other): composed(composed(told[one], turn_of(web, one, other)), inverse(told[other]))
            for one in part for other in part if turn_of(web, one, other)}


class Heights(unittest.TestCase):
    def test_told_examples(self):
        self.assertEqual(heights(WEB, PART, 0), {0: PLAIN, 1: THIRD, 2: (0, 2, 1), 3: composed(THIRD, SWAP)})
        # Both ways to 0 are as short: by 1 is the least.
        self.assertEqual(heights(WEB, PART, 3)[0], composed(SWAP, inverse(THIRD)))
        self.assertEqual(heights(web=WEB, root=4, part=(3, 4)), {3: inverse(THIRD), 4: PLAIN})

    def test_the_least_is_of_rows_of_places_and_shorter_ones_are_ahead(self):
        # From 0 to 4: by 1 and 5, or by 2 and 3, or by 6 alone; and to 7 by 1 and 5 ahead of 2 and 3.
        web = Web(8, [(0, 1, SWAP), (1, 5, THIRD), (5, 4, SWAP), (0, 2, THIRD), (2, 3, PLAIN), (3, 4, THIRD),
                      (0, 6, THIRD), (6, 4, THIRD), (5, 7, PLAIN), (3, 7, SWAP)])
        told = heights(web, (0, 1, 2, 3, 4, 5, 6, 7), 0)
        self.assertEqual(told[4], composed(THIRD, THIRD))
        self.assertEqual(told[7], composed(SWAP, THIRD))

    def test_within_the_part(self):
        for web, part, root, told in each_root():
            self.assertEqual(heights(web, part, root), told)
            self.assertEqual(list(heights(web, part, root)), list(part))
            self.assertIs(type(heights(web, part, root)), dict)

    def test_the_dict_is_the_askers_own(self):
        heights(WEB, PART, 0).clear()
        self.assertEqual(len(heights(WEB, PART, 0)), 4)


class OwnWay(unittest.TestCase):
    def test_from_either_end(self):
        for web, part, root, told in each_root():
            for (one, other), turn in own_ways_of(web, part, told).items():
                self.assertEqual(own_way(web, part, root, one, other), turn)
                self.assertEqual(own_way(web, part, root, other, one), inverse(turn))

    def test_plain_along_the_ways_that_heights_go_by(self):
        for web, part, root, _ in each_root():
            turns = [own_way(web, part, root, one, other) for one, other, _ in web.ways()
                     if one in part and other in part]
            self.assertGreaterEqual(turns.count(plain_of(web.size())), len(part) - 1)

    def test_told_examples(self):
        self.assertEqual(own_way(WEB, PART, 0, 0, 1), PLAIN)
        self.assertEqual(own_way(WEB, PART, 0, 2, 3), composed((0, 2, 1), inverse(composed(THIRD, SWAP))))
        self.assertEqual(own_way(other=4, one=3, root=3, part=(3, 4), web=WEB), PLAIN)

    def test_no_way(self):
        for one, other in [(0, 0), (0, 3), (1, 2), (3, 4), (4, 3), (0, 4), (4, 5), (5, 5), (0, 6), (-1, 0), (True, 0),
                           (False, True), (0, True), (3, True)]:
            raised = refused(self, NoWay, own_way, WEB, PART, 0, one, other)
            self.assertIs(raised.one, one)
            self.assertIs(raised.other, other)

    def test_no_way_of_anything(self):
        for at, thing in enumerate(NO_PLACES):
            with self.subTest(at=at):
                raised = refused(self, NoWay, own_way, WEB, PART, 0, thing, 1)
                self.assertIs(raised.one, thing)
                raised = refused(self, NoWay, own_way, WEB, PART, 0, 1, thing)
                self.assertIs(raised.other, thing)
                refused(self, NoWay, own_way, WEB, PART, 0, thing, thing)


class OwnTurn(unittest.TestCase):
    def test_the_coat_with_the_undone_height_put_in(self):
        for web, part, root, told in each_root():
            standing = standing_of(web, root)
            for name, (place, coat) in standing.folk().items():
                if place in part:
                    self.assertEqual(own_turn(standing, part, root, name), composed(coat, inverse(told[place])))

    def test_at_the_root_it_is_the_coat(self):
        self.assertEqual(own_turn(STANDING, PART, 1, "b"), THIRD)
        self.assertEqual(own_turn(name="d", root=3, part=PART, standing=STANDING), THIRD)

    def test_each_step_within_the_part_puts_the_ways_own_turn_in(self):
        for web, part, root, told in each_root():
            own = own_ways_of(web, part, told)
            for begin in part:
                standing = standing_of(web, begin)
                for place in [place for place in part if (begin, place) in own]:
                    name = standing.who(place)
                    behind = standing.step(place)
                    self.assertEqual(own_turn(behind, part, root, name),
                                     composed(own_turn(standing, part, root, name), own[place, begin]))
                    for other in standing.names():
                        if other != name and standing.where(other) in part:
                            self.assertEqual(own_turn(behind, part, root, other),
                                             own_turn(standing, part, root, other))

    def test_own_turns_stay_in_their_lot(self):
        for web, part, root, told in list(each_root())[::3]:
            group = closure(list(own_ways_of(web, part, told).values()), web.size())
            standing = standing_of(web, root)
            behind = walked(standing, [place for place in some_walk(web, root, 60)])
            for name in standing.names():
                if standing.where(name) in part and behind.where(name) in part:
                    change = composed(inverse(own_turn(standing, part, root, name)),
                                      own_turn(behind, part, root, name))
                    self.assertIn(change, group)

    def test_no_name(self):
        for at, name in enumerate([*ANYTHING, "e", "z", "", "A", "aa"]):
            with self.subTest(at=at):
                self.assertIs(refused(self, NoName, own_turn, STANDING, PART, 0, name).name, name)
        for name in "abce":
            self.assertEqual(refused(self, NoName, own_turn, STANDING, (3, 4), 3, name).name, name)


class GroupOf(unittest.TestCase):
    def test_made_of_all_own_turns(self):
        for web, part, root, told in each_root():
            group = group_of(web, part, root)
            self.assertIs(type(group), tuple)
            self.assertEqual(group, closure(sorted(set(own_ways_of(web, part, told).values())), web.size()))
            self.assertTrue(is_group(group, web.size()))

    def test_told_examples(self):
        self.assertEqual(group_of(WEB, (3, 4), 3), (PLAIN,))
        self.assertEqual(group_of(part=PART, root=0, web=WEB),
                         closure([composed((0, 2, 1), inverse(composed(THIRD, SWAP)))], 3))
        self.assertEqual(group_of(web_of("way", 4), (0, 1), 1), (plain_of(4),))


class Refused(unittest.TestCase):
    """NoPart, then NoPlace(root), then what is behind, by each def."""

    def asked(self, part, root, error):
        told = [refused(self, error, heights, WEB, part, root), refused(self, error, group_of, WEB, part, root)]
        for one, other in ((0, 1), (0, 3), (None, [])):
            told.append(refused(self, error, own_way, WEB, part, root, one, other))
        for name in ("a", "e", "zzz", None, []):
            told.append(refused(self, error, own_turn, STANDING, part, root, name))
        return told

    def test_no_part(self):
        for at, part in enumerate([*ANYTHING, (0, 1), (0, 1, 2), (1, 0, 2, 3), list(PART), [3, 4], (3, 4, 5), (4, 3),
                                   (0, 1, 2, 3, 4), (False, True, 2, 3), (0, True, 2, 3), (4, 5), (5,), "0123"]):
            with self.subTest(at=at):
                for root in (0, 3, 5, 6, None, [], True):
                    self.asked(part, root, NoPart)

    def test_no_place_of_the_part(self):
        for at, root in enumerate([4, 5, 6, -1, True, False, 2 ** 70, *NO_PLACES]):
            with self.subTest(at=at):
                for raised in self.asked(PART, root, NoPlace):
                    self.assertIs(raised.place, root)


if __name__ == "__main__":
    unittest.main()
