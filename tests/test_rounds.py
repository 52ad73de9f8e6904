"""[9.1], [9.2] and the interface below them."""

import unittest
from random import Random

from tests.comes import some_wish
from tests.nets import (
    ANYTHING, SHAPES, beside_of, brute_parts, simple_walks, some_webs, standing_of, stepped, turn_of, web_by, web_of,
)
from tests.things import composed, plain_of, refused
from turncoats.errors import NoPart, NoPlace, NoWish, Unlike
from turncoats.parts import kind
from turncoats.rounds import about, abouts, period
from turncoats.standings import Standing
from turncoats.turns import order
from turncoats.webs import Web
from turncoats.wishes import Wish, wish_of

PLAIN, THIRD, SWAP = (0, 1, 2), (1, 2, 0), (1, 0, 2)
# A round of four places, another one of three behind 4, and one apart.
WEB = Web(8, [(0, 2, THIRD), (2, 1, SWAP), (1, 3, PLAIN), (3, 0, PLAIN), (3, 4, SWAP), (4, 5, PLAIN), (5, 6, THIRD),
              (6, 4, PLAIN)])
PART, FAR = (0, 1, 2, 3), (4, 5, 6)
ROUNDS = [web_of(shape, size, chance) for shape in SHAPES for size in (2, 3, 5) for chance in (0, 1)
          if "round" in shape]
NO_PARTS = [*ANYTHING, PART[::-1], list(PART), (0, 1, 2), (0, 1, 2, 3, 4), (3, 4), (0, 2), (0, 1, 2, 3, 3), (7,),
            (False, True, 2, 3), (False, 1, 2, 3), (4, 5), (4, 6, 5), {0: 1, 1: 2}, "0123", (True, 2), (0, 1, 2, "3")]


def each_round():
    """All webs with a round, and the rounds."""
    for web in [*ROUNDS, *some_webs(30)]:
        for part in brute_parts(web):
            if len(part) > 2 and all(len(beside_of(web)[place] & set(part)) == 2 for place in part):
                yield web, part


def walk_there(web, part, here):
    """The least of the shortest of all walks to any of a part's places."""
    rows = [row for row in simple_walks(web, here) if row[-1] in part]
    return min((len(row), row) for row in rows)[1][1:]


def once(web, part, here):
    """The places by which the empty place goes once about, from one of them."""
    row = [here, min(beside_of(web)[here] & set(part))]
    while len(row) < len(part):
        row += [place for place in beside_of(web)[row[-1]] & set(part) if place not in row]
    return (*row[1:], here)


def gone(standing, walk):
    folk, here = standing.folk(), standing.empty()
    for place in walk:
        folk, here = stepped(standing.web(), folk, here, place), place
    return Standing(standing.web(), folk)


def brute_about(standing, part, n):
    """The standing behind going about, step by step."""
    web, begin = standing.web(), standing.empty()
    ahead = walk_there(web, part, begin)
    here = (begin, *ahead)[-1]
    walk = once(web, part, here)
    if n < 0:
        walk = (*walk[:-1][::-1], here)
    back = ((begin, *ahead)[::-1])[1:]
    return gone(standing, [*ahead, *(walk * abs(n)), *back])


class About(unittest.TestCase):
    def test_told_examples(self):
        standing = Standing(WEB, {"a": (1, PLAIN), "b": (2, PLAIN), "c": (3, PLAIN), "d": (4, PLAIN), "e": (5, PLAIN),
                                  "f": (6, PLAIN), "g": (7, PLAIN)})
        # By 2, 1 and 3 back to 0: who stood at 2 goes there all the way, the others a step.
        told = about(standing, PART, 1).folk()
        self.assertEqual([told[name][0] for name in "abcdefg"], [2, 3, 1, 4, 5, 6, 7])
        self.assertEqual(told["a"], (2, SWAP))
        self.assertEqual(about(n=-1, part=PART, standing=about(standing, PART, 1)), standing)
        self.assertEqual(about(standing, PART, 0), standing)

    def test_step_by_step(self):
        for web, part in each_round():
            for begin in range(web.many()):
                standing = standing_of(web, begin)
                if part[0] in web.joined(begin):
                    for n in range(-8, 9):
                        self.assertEqual(about(standing, part, n), brute_about(standing, part, n))

    def test_from_a_place_outside_nobody_else_is_moved(self):
        standing = standing_of(WEB, 5)
        for n in range(-8, 9):
            told = about(standing, PART, n)
            self.assertEqual(told.empty(), 5)
            for name in standing.names():
                if standing.where(name) not in (0, 1, 2):
                    self.assertEqual(told.folk()[name], standing.folk()[name])
        self.assertNotEqual(about(standing, PART, 1), standing)

    def test_the_least_of_the_shortest_walks_to_the_root(self):
        # From 7 to 3 by 4 and 5, or by 4 and 6: then by 5; from 0 the one by 1 is longer than by 6 alone.
        web = Web(8, [(0, 1, THIRD), (1, 2, SWAP), (2, 0, PLAIN), (0, 3, SWAP), (3, 5, SWAP), (5, 4, THIRD),
                      (3, 6, THIRD), (6, 4, PLAIN), (4, 7, SWAP)])
        standing = standing_of(web, 7)
        self.assertEqual(about(standing, (0, 1, 2), 1), gone(standing, [4, 5, 3, 0, 1, 2, 0, 3, 5, 4, 7]))
        self.assertEqual(about(standing, (0, 1, 2), -2), gone(standing, [4, 5, 3, 0, 2, 1, 0, 2, 1, 0, 3, 5, 4, 7]))

    def test_so_many_as_folk_have_each_gone_by_all_of_it_once(self):
        for web, part in each_round():
            here = part[1]
            standing = standing_of(web, here)
            told = about(standing, part, len(part) - 1)
            for name in standing.names():
                self.assertEqual(told.where(name), standing.where(name))

    def test_any_number(self):
        great = 10 ** 29 + 7
        for web, part in each_round():
            standing = standing_of(web, part[0])
            many = period(web, part)
            for n in (great, -great, 3 * 10 ** 29, -123456789012345678901234567890, many, -many, many * great):
                self.assertEqual(about(standing, part, n), brute_about(standing, part, n % many))
            self.assertEqual(about(about(standing, part, great), part, 1 - great), brute_about(standing, part, 1))

    def test_no_part(self):
        standing = standing_of(WEB, 0)
        for at, thing in enumerate(NO_PARTS):
            with self.subTest(at=at):
                refused(self, NoPart, about, standing, thing, 1)
                refused(self, NoPart, period, WEB, thing)
                refused(self, NoPart, abouts, standing, wish_of(standing), thing)

    def test_no_part_of_another_kind(self):
        for shape in ("five", "seven", "all of four", "way", "cube"):
            web = web_of(shape)
            part = brute_parts(web)[0]
            self.assertNotEqual(kind(web, part), "round")
            refused(self, NoPart, about, standing_of(web), part, 1)
            refused(self, NoPart, period, web, part)
            refused(self, NoPart, abouts, standing_of(web), wish_of(standing_of(web)), part)

    def test_no_place(self):
        standing = standing_of(WEB, 7)
        for part in (PART, FAR):
            for n in (0, 1, -1):
                self.assertEqual(refused(self, NoPlace, about, standing, part, n).place, 7)
        refused(self, NoPart, about, standing, (3, 4), 1)


class Period(unittest.TestCase):
    def test_told_examples(self):
        self.assertEqual(period(WEB, PART), 6)
        self.assertEqual(period(part=FAR, web=WEB), 6)
        for size in (2, 3, 4, 5):
            web = Web(6, [(0, 1, plain_of(size)), (1, 2, plain_of(size)), (2, 3, plain_of(size)),
                          (3, 4, plain_of(size)), (0, 4, plain_of(size))], size=size)
            self.assertEqual(period(web, (0, 1, 2, 3, 4)), 4)
        web = Web(3, [(0, 1, (1, 2, 0, 4, 3)), (1, 2, plain_of(5)), (2, 0, plain_of(5))], size=5)
        self.assertEqual(period(web, (0, 1, 2)), 12)

    def test_the_least_that_brings_back_each_coat(self):
        for web, part in each_round():
            standing = standing_of(web, part[-1])
            walk = once(web, part, part[-1])
            behind = gone(standing, walk)
            many = 1
            # A coat is brought back just where any is, as it is turned from behind.
            while behind != standing:
                behind = gone(behind, walk)
                many += 1
            self.assertEqual(period(web, part), many)

    def test_by_the_turns_of_all_its_ways(self):
        for web, part in each_round():
            turn = plain_of(web.size())
            row = (part[0], *once(web, part, part[0]))
            for one, other in zip(row, row[1:]):
                turn = composed(turn, turn_of(web, one, other))
            self.assertEqual(period(web, part), (len(part) - 1) * order(turn))


class Abouts(unittest.TestCase):
    def test_against_all_numbers_below_the_period(self):
        pick = Random(5)
        found = 0
        for web, part in each_round():
            for begin in range(0, web.many(), 3):
                if part[0] not in web.joined(begin):
                    continue
                standing = standing_of(web, begin)
                come = [about(standing, part, n) for n in range(period(web, part))]
                at = ((begin,) + walk_there(web, part, begin))[-1]
                for _ in range(6):
                    folk = pick.choice(come).folk()
                    told = {name: folk[name] for name in pick.sample(sorted(folk), pick.randint(0, len(folk)))}
                    for name in pick.sample(sorted(told), min(len(told), pick.randint(0, 2))):
                        size = web.size()
                        spot = pick.randrange(size)
                        told[name] = (told[name][0], pick.choice([None, ("spot", spot, pick.randrange(size))]))
                    right = []
                    for n, behind in enumerate(come):
                        # Asked of its places alone, the root aside.
                        here = {name: pair for name, pair in told.items() if pair[0] in part and pair[0] != at}
                        if Wish(web, begin, here).granted(behind):
                            right.append(n)
                    found += len(right)
                    self.assertEqual(abouts(standing, Wish(web, begin, told), part), right)
        self.assertGreater(found, 500)

    def test_any_wishes(self):
        pick = Random(6)
        for web, part in each_round():
            wish = some_wish(web, standing_of(web).names(), pick)
            begin = wish.empty()
            if part[0] in web.joined(begin):
                standing = Standing(web, {name: pair for name, pair in zip(
                    standing_of(web).names(), standing_of(web, begin).folk().values())})
                at = ((begin,) + walk_there(web, part, begin))[-1]
                here = {name: pair for name, pair in wish.told().items() if pair[0] in part and pair[0] != at}
                self.assertEqual(abouts(standing, wish, part), [
                    n for n in range(period(web, part))
                    if Wish(web, begin, here).granted(brute_about(standing, part, n))])

    def test_what_is_asked_elsewhere_does_not_count(self):
        standing = standing_of(WEB, 5)
        names = {standing.who(place): place for place in range(8) if place != 5}
        away = {name: (place, None) for name, place in names.items() if place in (4, 6, 7)}
        (one, two) = [name for name in away if names[name] in (4, 7)]
        wish = Wish(WEB, 5, {one: (names[two], None), two: (names[one], None)})
        self.assertEqual(abouts(standing, wish, PART), list(range(6)))
        # 3 is the root of the round from here.
        stranger = standing.who(7)
        self.assertEqual(abouts(standing, Wish(WEB, 5, {stranger: (3, None)}), PART), list(range(6)))
        self.assertEqual(abouts(standing, Wish(WEB, 5, {stranger: (0, None)}), PART), [])
        # One of the round's own folk asked away isn't asked of its places.
        self.assertEqual(abouts(standing, Wish(WEB, 5, {standing.who(0): (7, None)}), PART), list(range(6)))
        self.assertEqual(abouts(part=PART, wish=Wish(WEB, 5, {}), standing=standing), list(range(6)))

    def test_refusals_in_their_order(self):
        standing = standing_of(WEB, 0)
        apart = standing_of(WEB, 7)
        other = Web(8, WEB.ways()[1:])
        stranger = {"x": (1, None), "nobody": (2, None), standing.names()[0]: (3, None)}
        refused(self, Unlike, abouts, standing, Wish(other, 4, stranger), None)
        raised = refused(self, NoWish, abouts, standing, Wish(WEB, 4, stranger), None)
        self.assertEqual(raised.name, "nobody")
        refused(self, NoWish, abouts, apart, Wish(WEB, 4, stranger), PART)
        refused(self, NoPart, abouts, apart, Wish(WEB, 1, {}), (3, 4))
        self.assertEqual(refused(self, NoPlace, abouts, apart, Wish(WEB, 1, {}), PART).place, 7)
        refused(self, Unlike, abouts, standing, Wish(WEB, 1, {}), PART)
        self.assertEqual(abouts(standing, Wish(WEB, 0, {}), PART), list(range(6)))


class Unchanged(unittest.TestCase):
    def test_nothing_is_changed(self):
        web = web_by(4, [(0, 1), (1, 2), (2, 3), (3, 0)])
        standing = standing_of(web)
        wish = wish_of(about(standing, (0, 1, 2, 3), 2))
        told = abouts(standing, wish, (0, 1, 2, 3))
        told.clear()
        self.assertEqual(abouts(standing, wish, (0, 1, 2, 3)), [2])
        self.assertEqual((standing, wish), (standing_of(web), wish_of(about(standing, (0, 1, 2, 3), 2))))


if __name__ == "__main__":
    unittest.main()
