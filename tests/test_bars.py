"""[10.3]: the bar that is told, and [0.2], that there is one just where no walk leads."""

import unittest
from itertools import combinations
from random import Random

from tests.barring import (
    A3, AT_FIVE, AT_FOUR, AT_SEVEN, AT_TWO, FIVE, FOUR, KINDS, PLAIN, SEVEN, SWAP, THIRD, TWO, exchanged, is_bar,
    parts_there, wish_with,
)
from tests.comes import come, grants_wish, near_miss, some_wish, standing_by, web_with
from tests.nets import pairs_of, some_walk, standing_of
from tests.things import ALL, GROUPS, closure, plain_of, refused
from turncoats.bars import bar
from turncoats.errors import NoWish, Unlike
from turncoats.groups import leadings
from turncoats.judge import bars
from turncoats.parts import kind
from turncoats.standings import Standing
from turncoats.walks import walked
from turncoats.webs import Web
from turncoats.wishes import Wish, wish_of


def ahead_of(standing, told):
    """All that could be bars by form and are of an earlier kind than a told one, or of its kind and told earlier;
    those of fives and sevens aside."""
    at = (KINDS.index(told[0]), told[1:3] if told[0] in ("folk", "lot") else told[1:2])
    found = [("apart",), *[("still", name) for name in standing.names()]]
    for part, _ in parts_there(standing):
        found.append(("about", part))
        groups = GROUPS[standing.web().size()]
        found += [("folk", part, name) for name in standing.names()]
        found += [("lot", part, name, group) for name in standing.names() for group in groups]
        for group in groups:
            for leading in leadings(group):
                for row in range(2 ** (len(part) - 1)):
                    found.append(("sign", part, leading, {
                        place: 1 if row >> bit & 1 else -1 for bit, place in enumerate(part)}))
    return [thing for thing in found
            if (KINDS.index(thing[0]), thing[1:3] if thing[0] in ("folk", "lot") else thing[1:2]) < at]


class Small(unittest.TestCase):
    def shown(self, standing, rows, wish, first):
        """That a bar is told just where none of the rows grants the wish, and that it is the first; its kind."""
        told = bar(standing, wish)
        about = (standing.web().ways(), standing.folk(), wish.empty(), wish.told(), told)
        self.assertIs(told is None, any(grants_wish(row, wish) for row in rows), about)
        if told is None:
            return None
        self.assertIs(bars(standing, wish, told), True, about)
        self.assertIs(is_bar(standing, wish, told), True, about)
        if first:
            for thing in ahead_of(standing, told):
                self.assertIs(is_bar(standing, wish, thing), False, (about, thing))
        return told[0]

    def test_all_shapes_of_up_to_four_places(self):
        pick = Random(20)
        counts = {}
        for many in (2, 3, 4):
            pairs = list(combinations(range(many), 2))
            for number in range(2 ** len(pairs)):
                ways = [pair for bit, pair in enumerate(pairs) if number >> bit & 1]
                web = web_with(many, ways, pick.choice((2, 3)), pick)
                standing = standing_of(web, pick.randrange(many), pick.random())
                rows = list(come(standing))
                for at in range(8):
                    wish = some_wish(web, standing.names(), pick) if at % 2 else near_miss(standing, pick)
                    told = self.shown(standing, rows, wish, at < 4 and web.size() == 2)
                    counts[told] = counts.get(told, 0) + 1
        self.assertGreater(min(counts[word] for word in (None, "apart", "still", "folk", "about", "lot")), 10)

    def test_signs(self):
        pick = Random(21)
        webs = [FOUR, Web(4, [(one, other, (1, 0)) for one, other in combinations(range(4), 2)], size=2)]
        counts = {}
        for web in webs:
            standing = standing_of(web, pick.randrange(4), 1)
            rows = list(come(standing))
            self.assertEqual(len(rows), 4 * 6 * 4)
            for at in range(120):
                told = self.shown(standing, rows, near_miss(standing, pick), at % 4 == 0)
                counts[told] = counts.get(told, 0) + 1
        self.assertGreater(counts["sign"], 30)
        self.assertGreater(counts[None], 30)

    def test_each_standing_to_each(self):
        for web, many in [(Web(3, [(0, 1, THIRD), (1, 2, SWAP), (2, 0, PLAIN)]), 12),
                          (Web(3, [(0, 1, (1, 0)), (1, 2, (0, 1))], size=2), 3),
                          (Web(4, [(0, 1, (0, 1)), (1, 2, (0, 1)), (2, 0, (0, 1)), (2, 3, (1, 0))], size=2), 8)]:
            for empty in range(web.many()):
                standing = standing_of(web, empty)
                known = come(standing)
                self.assertEqual(len(known), many)
                # Those that come to one another are the same from each of them.
                for row in known:
                    self.assertIs(bar(standing, wish_of(standing_by(web, row))), None)
                    self.assertIs(bar(standing_by(web, row), wish_of(standing)), None)
                for name in standing.names():
                    for coat in ALL[web.size()]:
                        folk = standing.folk()
                        folk[name] = (folk[name][0], coat)
                        other = Standing(web, folk)
                        here = any(standing_by(web, row) == other for row in known)
                        self.assertIs(bar(standing, wish_of(other)) is None, here)

    def test_five_places_of_two_patches(self):
        pick = Random(22)
        for shape in ("five", "five otherwise", "near a five: a house", "two rounds at a place", "star",
                      "near a five: two joined"):
            many, pairs = pairs_of(shape)
            web = web_with(many, pairs, 2, pick)
            standing = standing_of(web, pick.randrange(many), pick.random())
            rows = list(come(standing))
            for _ in range(25):
                self.shown(standing, rows, near_miss(standing, pick), False)
                self.shown(standing, rows, some_wish(web, standing.names(), pick), False)

    def test_fives_with_thirds(self):
        pick = Random(23)
        counts = {}
        four = (1, 2, 0, 3)
        for size, turn, more in [(3, THIRD, (2, 0, 1)), (4, four, (2, 0, 1, 3)), (5, (1, 2, 0, 3, 4), (2, 0, 1, 3, 4))]:
            plain = plain_of(size)
            web = Web(5, [(0, 2, plain), (0, 3, plain), (0, 4, plain), (1, 2, plain), (1, 3, turn), (1, 4, more)],
                      size=size)
            self.assertEqual(kind(web, (0, 1, 2, 3, 4)), "five")
            standing = standing_of(web, 0, size)
            rows = list(come(standing))
            self.assertEqual(len(rows), 5 * 12 * 3 ** 4 // 3)
            group = closure([turn], size)
            for _ in range(120):
                behind = standing_by(web, pick.choice(rows))
                folk = behind.folk()
                name = pick.choice(behind.names())
                folk[name] = (folk[name][0], tuple(folk[name][1][k] for k in pick.choice(group)))
                for one in pick.sample(behind.names(), pick.choice((0, 0, 1, 2))):
                    folk[one] = (folk[one][0], None)
                told = self.shown(standing, rows, Wish(web, behind.empty(), folk), False)
                counts[told] = counts.get(told, 0) + 1
        self.assertEqual(set(counts), {None, "thirds"})
        self.assertGreater(min(counts.values()), 60)

    def test_sevens_with_plain_ways(self):
        pick = Random(24)
        counts = {}
        for shape, size in (("seven", 2), ("seven otherwise", 3)):
            many, pairs = pairs_of(shape)
            web = Web(many, [(one, other, plain_of(size)) for one, other in pairs], size=size)
            standing = standing_of(web, pick.randrange(7))
            rows = list(come(standing))
            self.assertEqual(len(rows), 840)
            for _ in range(60):
                told = self.shown(standing, rows, near_miss(standing, pick), False)
                counts[told] = counts.get(told, 0) + 1
                places = [place for place in range(7) if place != standing.empty()]
                names = pick.sample(standing.names(), pick.randint(3, 6))
                wish = wish_with(standing, {name: (place, None) for name, place in zip(names, pick.sample(places, 6))})
                told = self.shown(standing, rows, wish, False)
                counts[told] = counts.get(told, 0) + 1
        self.assertEqual(set(counts), {None, "lot", "seven"})
        self.assertGreater(counts["seven"], 60)


class Told(unittest.TestCase):
    def test_the_first_of_the_kinds(self):
        # Everything at once, then one kind after the other left out.
        wish = Wish(TWO, 6, {"f": (7, PLAIN), "c": (1, None)})
        self.assertEqual(bar(AT_TWO, wish), ("apart",))
        told = {"g": (7, PLAIN), "f": (6, SWAP), "d": (1, None), "c": (3, (0, 2, 1)), "a": (4, None), "e": (5, SWAP)}
        self.assertEqual(bar(AT_TWO, wish_with(AT_TWO, told)), ("still", "f"))
        told["f"] = (6, PLAIN)
        self.assertEqual(bar(AT_TWO, wish_with(AT_TWO, told)), ("still", "g"))
        del told["g"]
        self.assertEqual(bar(AT_TWO, wish_with(AT_TWO, told)), ("folk", (0, 1, 2), "d"))
        del told["d"]
        self.assertEqual(bar(AT_TWO, wish_with(AT_TWO, told)), ("folk", (2, 3, 4), "a"))
        told["a"] = (1, SWAP)
        self.assertEqual(bar(AT_TWO, wish_with(AT_TWO, told)), ("about", (0, 1, 2)))
        del told["a"]
        self.assertEqual(bar(AT_TWO, wish_with(AT_TWO, told)), ("about", (2, 3, 4)))
        del told["c"]
        self.assertEqual(bar(AT_TWO, wish_with(AT_TWO, told)), ("lot", (4, 5), "e", (PLAIN,)))
        del told["e"]
        self.assertIs(bar(AT_TWO, wish_with(AT_TWO, told)), None)

    def test_of_one_kind_by_parts_then_names(self):
        self.assertEqual(bar(AT_TWO, wish_with(AT_TWO, {"d": (2, None), "e": (1, None)})), ("folk", (0, 1, 2), "d"))
        self.assertEqual(bar(AT_TWO, wish_with(AT_TWO, {"a": (3, None), "e": (2, None)})), ("folk", (0, 1, 2), "e"))
        dressed = {"e": (5, PLAIN), "d": (4, SWAP), "b": (2, SWAP), "c": (3, THIRD)}
        self.assertEqual(bar(AT_FIVE, wish_with(AT_FIVE, dressed)), ("lot", (0, 1, 2, 3, 4), "b", A3))
        self.assertEqual(bar(AT_FIVE, wish_with(AT_FIVE, {"e": (5, PLAIN)})), ("lot", (4, 5), "e", (PLAIN,)))

    def test_signs_ahead_of_thirds_and_sevens(self):
        told = bar(AT_FIVE, wish_with(AT_FIVE, exchanged({**AT_FIVE.folk(), "c": (3, PLAIN)}, "a", "b")))
        self.assertEqual(told[0], "sign")
        folk = exchanged(AT_FIVE.folk(), "a", "b")
        self.assertEqual(bar(AT_FIVE, wish_with(AT_FIVE, exchanged(folk, "b", "c")))[0], "thirds")
        web = Web(7, [(one, other, (1, 0) if (one, other) == (0, 6) else turn) for one, other, turn in SEVEN.ways()],
                  size=2)
        standing = Standing(web, AT_SEVEN.folk())
        # By an exchange of two the pairings and the signs go wrong, by a coat more the pairings alone.
        folk = exchanged(AT_SEVEN.folk(), "a", "b")
        self.assertEqual(bar(standing, wish_with(standing, folk))[0], "sign")
        self.assertEqual(bar(standing, wish_with(standing, {**folk, "c": (3, (1, 0))}))[0], "seven")

    def test_the_same_when_asked_again_though_dicts_were_emptied(self):
        folk = exchanged(AT_FIVE.folk(), "a", "b")
        for standing, wish in [(AT_FOUR, wish_with(AT_FOUR, exchanged(AT_FOUR.folk(), "a", "b"))),
                               (AT_FIVE, wish_with(AT_FIVE, exchanged(folk, "b", "c"))),
                               (AT_SEVEN, wish_with(AT_SEVEN, exchanged(AT_SEVEN.folk(), "a", "b")))]:
            told = bar(standing, wish)
            again = bar(standing, wish)
            self.assertEqual(told, again)
            emptied = 0
            for thing in told:
                if isinstance(thing, dict):
                    thing.clear()
                    emptied += 1
            self.assertGreater(emptied, 0)
            self.assertEqual(bar(standing, wish), again)
            self.assertIs(bars(standing, wish, again), True)
            self.assertIs(bars(standing, wish, told), False)

    def test_it_is_told_in_tuples(self):
        told = bar(AT_FIVE, wish_with(AT_FIVE, {"a": (1, SWAP)}))
        self.assertEqual(told, ("lot", (0, 1, 2, 3, 4), "a", A3))
        self.assertEqual([type(thing) for thing in told], [str, tuple, str, tuple])

    def test_more_places(self):
        pick = Random(25)
        counts = {}
        for shape in ("two rounds at a place", "three rounds at a place", "rounds, a way between", "rounds apart",
                      "five and round", "five in more", "seven in more", "cube", "all of six",
                      "round and a tail to it"):
            for size in (2, 3, 4, 5):
                many, pairs = pairs_of(shape)
                web = web_with(many, pairs, size, pick)
                standing = standing_of(web, pick.randrange(many))
                for _ in range(4):
                    behind = walked(standing, some_walk(web, standing.empty(), 30, pick.random()))
                    self.assertIs(bar(standing, wish_of(behind)), None)
                    wish = near_miss(standing, pick)
                    told = bar(standing, wish)
                    if told is not None:
                        counts[told[0]] = counts.get(told[0], 0) + 1
                        self.assertIs(bars(standing, wish, told), True)
        self.assertGreater(len(counts), 3)


class Refused(unittest.TestCase):
    def test_of_another_web_then_of_names_that_are_not_there(self):
        other = Web(6, FIVE.ways()[1:])
        refused(self, Unlike, bar, AT_FIVE, Wish(other, 0, {}))
        refused(self, Unlike, bar, AT_FIVE, Wish(other, 0, {"x": (1, None)}))
        told = {"x": (1, None), "a": (2, None), "f": (3, None), "z": (4, None)}
        self.assertEqual(refused(self, NoWish, bar, AT_FIVE, wish_with(AT_FIVE, told)).name, "f")
        web = Web(3, [])
        self.assertEqual(refused(self, NoWish, bar, standing_of(web), Wish(web, 1, {"x": (0, None)})).name, "x")
        self.assertIs(bar(wish=wish_with(AT_FIVE, {}), standing=AT_FIVE), None)

    def test_a_web_made_anew_is_the_same(self):
        web = Web(6, FIVE.ways()[::-1])
        self.assertIs(bar(AT_FIVE, Wish(web, 0, {})), None)


if __name__ == "__main__":
    unittest.main()
