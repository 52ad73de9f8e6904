"""[11.2] and the interface below it; [0.2], (a) to (c)."""

import unittest
from math import factorial
from random import Random

from tests.barring import (
    AT_FIVE, AT_FOUR, AT_SEVEN, AT_TWO, FIVE, FOUR, PLAIN, SEVEN, SWAP, THIRD, TWO, exchanged, wish_with,
)
from tests.comes import come, grants_wish, near_miss, some_wish, standing_by, web_with
from tests.nets import NO_PLACES, SHAPES, pairs_of, some_walk, standing_of
from tests.test_chains import small_webs
from tests.things import GROUPS, closure, plain_of, refused
from turncoats.bars import bar
from turncoats.chains import Chain
from turncoats.errors import NoPlace, NoWish, Unlike
from turncoats.foldtexts import fold_text, read_fold
from turncoats.judge import bars
from turncoats.parts import kind
from turncoats.reach import come_of, reach
from turncoats.standings import Standing
from turncoats.walks import is_fold, led, walked
from turncoats.webs import Web
from turncoats.wishes import Wish, wish_of


class Case(unittest.TestCase):
    def shown(self, standing, wish):
        """That a fold is told that leads to what grants the wish, or a bar that is let by, not both; which."""
        told = reach(standing, wish)
        self.assertIs(type(told), tuple)
        word, thing = told
        if word == "fold":
            self.assertIs(is_fold(standing.web(), thing), True)
            self.assertIs(wish.granted(led(standing, thing)), True)
            self.assertLessEqual(len(thing), 1500)
            self.assertLessEqual(max(len(items) for _, items in thing), 200)
            self.assertEqual(read_fold(fold_text(thing)), thing)
            self.assertIs(bar(standing, wish), None)
        else:
            self.assertEqual(word, "bar")
            self.assertIs(bars(standing, wish, thing), True)
            self.assertEqual(thing, bar(standing, wish))
        return word


class Small(Case):
    def test_a_fold_just_where_one_of_all_that_come_grants_the_wish(self):
        pick = Random(50)
        counts = {"fold": 0, "bar": 0}
        for web in small_webs(pick, 120):
            standing = standing_of(web, pick.randrange(web.many()), pick.random())
            rows = list(come(standing))
            for at in range(8):
                wish = some_wish(web, standing.names(), pick) if at % 3 == 0 else near_miss(standing, pick)
                told = self.shown(standing, wish)
                self.assertIs(told == "fold", any(grants_wish(row, wish) for row in rows))
                counts[told] += 1
        self.assertGreater(min(counts.values()), 200)

    def test_each_that_comes_and_no_other_one(self):
        for standing in (AT_FOUR, standing_of(Web(4, [(0, 1, (1, 0)), (1, 2, (0, 1)), (2, 3, (0, 1))], size=2))):
            rows = come(standing)
            for row in rows:
                self.assertEqual(self.shown(standing, wish_of(standing_by(standing.web(), row))), "fold")
                folk = standing_by(standing.web(), row).folk()
                name = min(folk)
                folk[name] = (folk[name][0], folk[name][1][::-1])
                other = Standing(standing.web(), folk)
                self.assertEqual(self.shown(standing, wish_of(other)), "bar")


class Greater(Case):
    def test_webs_of_six_to_eight_places(self):
        pick = Random(51)
        counts = {"fold": 0, "bar": 0}
        for shape in SHAPES:
            many, pairs = pairs_of(shape)
            for size in (2, 3, 4, 5):
                web = web_with(many, pairs, size, pick)
                standing = standing_of(web, pick.randrange(many))
                for _ in range(5):
                    counts[self.shown(standing, near_miss(standing, pick, 200))] += 1
                behind = walked(standing, some_walk(web, standing.empty(), 300, pick.random()))
                self.assertEqual(self.shown(standing, wish_of(behind)), "fold")
                self.assertEqual(led(standing, reach(standing, wish_of(behind))[1]), behind)
        self.assertGreater(min(counts.values()), 150)

    def test_a_seven_with_some_told_alone(self):
        pick = Random(52)
        rows = list(come(AT_SEVEN))
        counts = {"fold": 0, "bar": 0}
        for _ in range(60):
            names = pick.sample("abcdef", pick.randint(2, 6))
            wish = Wish(SEVEN, pick.randrange(7), {})
            places = [place for place in range(7) if place != wish.empty()]
            wish = Wish(SEVEN, wish.empty(), {name: (place, pick.choice([None, None, ("spot", 1, 1)]))
                                              for name, place in zip(names, pick.sample(places, len(names)))})
            told = self.shown(AT_SEVEN, wish)
            self.assertIs(told == "fold", any(grants_wish(row, wish) for row in rows))
            counts[told] += 1
        self.assertGreater(min(counts.values()), 15)

    def test_thirds(self):
        folk = AT_FIVE.folk()
        gone_on = exchanged(exchanged(folk, "a", "b"), "b", "c")
        kinds = [self.shown(AT_FIVE, wish_with(AT_FIVE, {**gone_on, "a": (gone_on["a"][0], coat)}))
                 for coat in closure([THIRD], 3)]
        self.assertEqual(sorted(kinds), ["bar", "bar", "fold"])
        for told in ({**gone_on, "d": (4, None)}, {name: pair for name, pair in gone_on.items() if name != "b"},
                     {**gone_on, "a": (gone_on["a"][0], None)}):
            self.assertEqual(self.shown(AT_FIVE, wish_with(AT_FIVE, told)), "fold")

    def test_several_parts_at_one_place(self):
        for told, right in [({"a": (2, None), "c": (4, None)}, "fold"), ({"a": (2, None), "e": (5, SWAP)}, "bar"),
                            ({"c": (4, None), "d": (3, None), "e": (5, ("spot", 0, 0))}, "fold"), ({}, "fold"),
                            ({"f": (6, PLAIN), "g": (7, None)}, "fold"), ({"f": (7, None)}, "bar")]:
            self.assertEqual(self.shown(AT_TWO, wish_with(AT_TWO, told)), right)
        for empty in range(6):
            self.assertEqual(self.shown(AT_TWO, Wish(TWO, empty, {"f": (6, PLAIN)})), "fold")
        self.assertEqual(reach(AT_TWO, Wish(TWO, 6, {})), ("bar", ("apart",)))


class Refused(unittest.TestCase):
    def test_of_another_web_then_of_names_that_are_not_there(self):
        other = Web(6, FIVE.ways()[1:])
        refused(self, Unlike, reach, AT_FIVE, Wish(other, 0, {"x": (1, None)}))
        told = {"x": (1, None), "a": (2, None), "f": (3, None)}
        self.assertEqual(refused(self, NoWish, reach, AT_FIVE, wish_with(AT_FIVE, told)).name, "f")
        self.assertEqual(reach(wish=wish_with(AT_FIVE, {}), standing=AT_FIVE), ("fold", ((0, ()),)))

    def test_the_same_when_asked_again(self):
        wish = wish_with(AT_FOUR, exchanged(AT_FOUR.folk(), "a", "b"))
        told = reach(AT_FOUR, wish)
        again = reach(AT_FOUR, wish)
        self.assertEqual(told, again)
        told[1][2].clear()
        self.assertEqual(reach(AT_FOUR, wish), again)
        behind = wish_of(walked(AT_FIVE, some_walk(FIVE, 0, 50)))
        self.assertEqual(reach(AT_FIVE, behind), reach(AT_FIVE, behind))


class ComeOf(unittest.TestCase):
    def test_against_all_standings_that_come(self):
        pick = Random(53)
        for web in small_webs(pick, 80):
            place = pick.randrange(web.many())
            self.assertEqual(come_of(web, place), len(come(standing_of(web, place))))

    def test_places_times_the_chains_size(self):
        pick = Random(54)
        for shape in SHAPES:
            many, pairs = pairs_of(shape)
            for size in (2, 3, 4, 5):
                web = web_with(many, pairs, size, pick)
                for place in range(many):
                    self.assertEqual(come_of(web, place), len(web.joined(place)) * Chain(web, place).size())

    def test_rounds_with_plain_ways(self):
        for many in range(3, 9):
            for size in (2, 5):
                web = Web(many, [(at, (at + 1) % many, plain_of(size)) for at in range(many)], size=size)
                self.assertEqual(come_of(web, many - 1), many * (many - 1))
        web = Web(4, [(0, 1, (1, 2, 0, 4, 3)), (1, 2, plain_of(5)), (2, 3, plain_of(5)), (3, 0, plain_of(5))], size=5)
        self.assertEqual(come_of(web, 0), 4 * 3 * 6)

    def test_plain_ways_tell_all_orders_or_half_of_them(self):
        for shape in SHAPES:
            many, pairs = pairs_of(shape)
            web = Web(many, [(one, other, PLAIN) for one, other in pairs])
            if web.joined(0) != tuple(range(many)) or kind_of(web) is None:
                continue
            told = {"way": many, "round": many * (many - 1), "seven": 840, "five": 60}.get(kind_of(web))
            if told is None:
                told = many * factorial(many - 1) // (2 if has_two_sides(web) else 1)
            self.assertEqual(come_of(web, many - 1), told, shape)
        self.assertEqual(come_of(place=0, web=SEVEN), 840)

    def test_coats_of_the_group(self):
        # Of two places each of which is joined to all others, one way is turned.
        for many in (4, 5, 6, 7, 8):
            for size in (2, 3, 4, 5):
                turn = GROUPS[size][-1][1]
                group = closure([turn], size)
                pairs = [(0, 1)] + [(one, other) for one in (0, 1) for other in range(2, many)]
                web = Web(many, [(one, other, turn if (one, other) == (1, 2) else plain_of(size))
                                 for one, other in pairs], size=size)
                # Of the rounds of three all but one turn nobody, so no leading goes with signs.
                self.assertEqual(come_of(web, 0), many * factorial(many - 1) * len(group) ** (many - 1))
        self.assertEqual(come_of(FOUR, 0), 4 * 6 * 2 ** 3 // 2)

    def test_fives_that_go_with_thirds(self):
        for turns, group in [([(1, 2, 0, 3)], 3), ([(1, 2, 0, 3), (1, 0, 3, 2)], 12)]:
            plain = plain_of(4)
            more = tuple(turns[0].index(k) for k in range(4))
            if len(turns) > 1:
                more = tuple(more[k] for k in turns[1])
            web = Web(5, [(0, 2, plain), (0, 3, plain), (0, 4, plain), (1, 2, plain), (1, 3, turns[0]), (1, 4, more)],
                      size=4)
            for place in range(5):
                self.assertEqual(come_of(web, place), 5 * 12 * group ** 4 // 3)
        # By a turn that goes with no thirds all come.
        web = Web(5, [(0, 2, plain), (0, 3, plain), (0, 4, plain), (1, 2, plain), (1, 3, plain), (1, 4, (1, 2, 0, 3))],
                  size=4)
        self.assertEqual(come_of(web, 2), 5 * 12 * 3 ** 4)

    def test_a_place_alone_and_others_joined(self):
        self.assertEqual(come_of(Web(2, []), 1), 1)
        self.assertEqual(come_of(Web(8, [(0, 1, PLAIN)], size=3), 7), 1)
        self.assertEqual(come_of(TWO, 7), 2)
        self.assertEqual(come_of(Web(4, [(0, 1, SWAP), (1, 2, THIRD), (2, 3, SWAP)]), 2), 4)
        self.assertEqual({come_of(TWO, place) for place in range(6)}, {6 * Chain(TWO, 0).size()})

    def test_no_place(self):
        for at, thing in enumerate([*NO_PLACES, 5, 6]):
            with self.subTest(at=at):
                self.assertIs(refused(self, NoPlace, come_of, Web(5, [(0, 1, PLAIN)]), thing).place, thing)


def kind_of(web):
    """The kind of a web's one part, None where it isn't one part."""
    part = tuple(range(web.many()))
    return kind(web, part) if one_part(web) else None


def one_part(web):
    """Whether no single place parts the web."""
    for gone in range(web.many()):
        left = [place for place in range(web.many()) if place != gone]
        found = left[:1]
        for place in found:
            found += [other for other in web.beside(place) if other != gone and other not in found]
        if len(found) < len(left):
            return False
    return True


def has_two_sides(web):
    """Whether the places can be parted into two sides so that each way leads from the one to the other."""
    side = {0: 0}
    for place in range(web.many()):
        for here in list(side):
            for other in web.beside(here):
                side.setdefault(other, 1 - side[here])
    return all(side[one] != side[other] for one, other, _ in web.ways())


if __name__ == "__main__":
    unittest.main()
