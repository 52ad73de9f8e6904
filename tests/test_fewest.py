"""[12.1] and the interface below it."""

import unittest
from random import Random

from tests.barring import AT_FIVE, AT_FOUR, AT_SEVEN, AT_TWO, FIVE, FOUR, PLAIN, SEVEN, TWO, exchanged, wish_with
from tests.comes import come, grants_wish, near_miss, some_wish
from tests.nets import ANYTHING, some_walk, standing_of, web_of
from tests.test_chains import small_webs
from tests.things import NO_LISTS, refused
from turncoats.errors import NoWish, TooMany, Unlike
from turncoats.fewest import fewest, leads
from turncoats.walks import walked
from turncoats.webs import Web
from turncoats.wishes import Wish, wish_of


def first_of(walks, wish):
    """The number and the walk of the first of all standings that grants a wish, or None twice."""
    for at, (row, walk) in enumerate(walks.items()):
        if grants_wish(row, wish):
            return at, list(walk)
    return None, None


class Fewest(unittest.TestCase):
    def test_against_all_standings_in_their_order(self):
        pick = Random(60)
        counts = {"walk": 0, "none": 0}
        for web in small_webs(pick, 80):
            standing = standing_of(web, pick.randrange(web.many()), pick.random())
            walks = come(standing)
            rows = sorted(walks.values(), key=lambda walk: (len(walk), walk))
            self.assertEqual(list(walks.values()), rows)
            for at in range(5):
                wish = some_wish(web, standing.names(), pick) if at % 2 else near_miss(standing, pick)
                told = first_of(walks, wish)[1]
                right = ("none", len(walks)) if told is None else ("walk", told)
                self.assertEqual(fewest(standing, wish), right)
                counts[right[0]] += 1
        self.assertGreater(min(counts.values()), 100)

    def test_bounds(self):
        pick = Random(61)
        for web in small_webs(pick, 40):
            standing = standing_of(web, pick.randrange(web.many()), pick.random())
            walks = come(standing)
            if len(walks) > 300:
                continue
            for _ in range(3):
                wish = near_miss(standing, pick)
                at, walk = first_of(walks, wish)
                near = {1, 2, 3, len(walks) - 1, len(walks), len(walks) + 1, at or 1, (at or 1) + 1}
                for most in sorted(near - {0}):
                    if at is not None and at < most:
                        self.assertEqual(fewest(standing, wish, most=most), ("walk", walk))
                    elif len(walks) > most:
                        raised = refused(self, TooMany, fewest, standing, wish, most=most)
                        self.assertEqual(raised.most, most)
                    else:
                        self.assertEqual(fewest(standing, wish, most=most), ("none", len(walks)))

    def test_the_least_of_the_shortest(self):
        # About a round of four both ways are as long to the place across: the least is by the lesser neighbour.
        web = Web(4, [(0, 2, PLAIN), (2, 1, PLAIN), (1, 3, PLAIN), (3, 0, PLAIN)])
        self.assertEqual(fewest(standing_of(web), Wish(web, 1, {})), ("walk", [2, 1]))
        self.assertEqual(fewest(wish=Wish(web, 3, {}), standing=standing_of(web), most=4), ("walk", [3]))
        self.assertEqual(fewest(standing_of(web), Wish(web, 0, {})), ("walk", []))
        self.assertEqual(fewest(AT_TWO, Wish(TWO, 5, {"f": (6, None)}), most=100), ("walk", [2, 4, 5]))

    def test_none(self):
        self.assertEqual(fewest(AT_SEVEN, wish_with(AT_SEVEN, exchanged(AT_SEVEN.folk(), "a", "b"))), ("none", 840))
        self.assertEqual(fewest(AT_SEVEN, Wish(SEVEN, 0, {"a": (1, (1, 0))}), most=840), ("none", 840))
        refused(self, TooMany, fewest, AT_SEVEN, Wish(SEVEN, 0, {"a": (1, (1, 0))}), most=839)
        web = Web(3, [])
        self.assertEqual(fewest(standing_of(web), Wish(web, 1, {}), most=1), ("none", 1))

    def test_left_out_it_is_twenty_thousand(self):
        web = web_of("seven", 5)
        standing = standing_of(web)
        name = standing.names()[0]
        never = Wish(web, 0, {name: (1, (4, 3, 2, 1, 0)), **{one: (at + 2, (4, 3, 2, 1, 0))
                                                             for at, one in enumerate(standing.names()[1:])}})
        self.assertEqual(refused(self, TooMany, fewest, standing, never).most, 20000)
        walks = come(standing, 20000)
        told = list(walks)[19999], list(walks)[20000]
        for at, row in enumerate(told):
            wish = Wish(web, row.index(None), {pair[0]: (place, pair[1]) for place, pair in enumerate(row) if pair})
            if at == 0:
                self.assertEqual(fewest(standing, wish), ("walk", list(walks[row])))
            else:
                self.assertEqual(refused(self, TooMany, fewest, standing, wish).most, 20000)
                self.assertEqual(fewest(standing, wish, most=20001), ("walk", list(walks[row])))

    def test_refusals(self):
        other = Web(6, FIVE.ways()[1:])
        for what in (fewest, lambda standing, wish: leads(standing, wish, None)):
            refused(self, Unlike, what, AT_FIVE, Wish(other, 0, {"x": (1, None)}))
            refused(self, Unlike, what, AT_FIVE, Wish(other, 0, {}))
            told = {"x": (1, None), "a": (2, None), "f": (3, None)}
            self.assertEqual(refused(self, NoWish, what, AT_FIVE, wish_with(AT_FIVE, told)).name, "f")

    def test_the_list_is_the_askers_own(self):
        wish = wish_of(walked(AT_FOUR, [1, 2, 3]))
        told = fewest(AT_FOUR, wish)
        self.assertIs(type(told[1]), list)
        told[1].clear()
        self.assertEqual(fewest(AT_FOUR, wish), ("walk", [1, 2, 3]))


class Leads(unittest.TestCase):
    def test_walks(self):
        pick = Random(62)
        counts = {True: 0, False: 0}
        for web in small_webs(pick, 60):
            standing = standing_of(web, pick.randrange(web.many()), pick.random())
            for _ in range(8):
                walk = some_walk(web, standing.empty(), pick.randrange(12), pick.random())
                behind = walked(standing, walk)
                wish = pick.choice([wish_of(behind), near_miss(standing, pick), some_wish(web, standing.names(), pick),
                                    Wish(web, behind.empty(), {})])
                right = wish.granted(behind)
                self.assertIs(leads(standing, wish, walk), right)
                self.assertIs(leads(standing, wish, tuple(walk)), right)
                counts[right] += 1
                told = fewest(standing, wish)
                if told[0] == "walk":
                    self.assertIs(leads(standing, wish, told[1]), True)
        self.assertGreater(min(counts.values()), 100)

    def test_of_anything(self):
        wish = Wish(FOUR, 2, {})
        self.assertIs(leads(AT_FOUR, wish, [1, 2]), True)
        self.assertIs(leads(walk=(2,), wish=wish, standing=AT_FOUR), True)
        for at, thing in enumerate([*NO_LISTS, *ANYTHING, [2, 2], [1], [1, 3], [1, 2, None], [1, 3, 2], ["2"], "2",
                                    "12", {2: 2}, [[2]], [(2,)], (1, 2, 4), [3, 2, -1], [4, 2]]):
            with self.subTest(at=at):
                self.assertIs(leads(AT_FOUR, wish, thing), False)
        # Truths are no places.
        self.assertIs(leads(AT_FOUR, Wish(FOUR, 1, {}), [True]), False)
        self.assertIs(leads(AT_FOUR, wish, [True, 2]), False)
        self.assertIs(leads(AT_FOUR, Wish(FOUR, 0, {}), [1, False]), False)
        self.assertIs(leads(AT_FOUR, Wish(FOUR, 0, {}), []), True)
        self.assertIs(leads(AT_FOUR, wish, []), False)
        self.assertIs(leads(AT_FOUR, Wish(FOUR, 0, {"a": (1, (1, 0))}), ()), False)

    def test_nothing_is_changed(self):
        walk = [1, 2]
        self.assertIs(leads(AT_FOUR, Wish(FOUR, 2, {}), walk), True)
        self.assertEqual(walk, [1, 2])


if __name__ == "__main__":
    unittest.main()
