"""[8.1], [8.2] and the interface below them."""

import unittest
from random import Random

from tests.comes import come, grants, grants_wish, row_of, some_wish, standing_by
from tests.nets import ANYTHING, NO_PLACES, some_walk, some_webs, standing_of, web_by, web_of
from tests.test_standings import NO_NAMES
from tests.things import ALL, NO_LISTS, NO_TURNS, SIZES, plain_of, refused
from turncoats.errors import BadFolk, NoPlace, NoStep, Unlike
from turncoats.standings import Standing
from turncoats.walks import walked
from turncoats.webs import Web
from turncoats.wishes import Wish, wish_of

PLAIN, THIRD, SWAP = (0, 1, 2), (1, 2, 0), (1, 0, 2)
WEB = Web(5, [(0, 1, THIRD), (1, 2, SWAP), (2, 0, (0, 2, 1)), (2, 3, PLAIN)])
TOLD = {"dora": (3, None), "anna": (1, THIRD), "bert": (4, ("spot", 2, 0))}
FOLK = {"anna": (1, THIRD), "bert": (4, (2, 1, 0)), "cora": (2, PLAIN), "dora": (3, SWAP)}

NO_DRESSES = [
    # Of None alone anything is let be.
    *[thing for thing in ANYTHING if thing is not None and thing != (0, 1, 2)],
    "spot", ("spot",), ("spot", 0), ("spot", 0, 0, 0), ("spot", 0, 3), ("spot", 3, 0), ("spot", -1, 0), ("spot", 0, -1),
    ("spot", 10 ** 30, 0), ("spot", 0, 10 ** 5000), ("spot", True, 0), ("spot", 0, True), ("spot", False, 0),
    ("spot", 0, False), ("spot", None, 0), ("spot", 0, None), ("spot", "0", 0), ("spot", 0, "0"), ("spot", [0], 0),
    ("spot", 0, [0]), ("spot", (0,), 0), ("Spot", 0, 0), ("spots", 0, 0), ("patch", 0, 0), (None, 0, 0), ("", 0, 0),
    (0, 0, 0), (["spot"], 0, 0), ["spot", 0, 0], [0, 1, 2], (0, "spot", 0), ((), 0, 0), ({}, 0, 0),
    # Coats of other sizes, and what is none of any.
    (0, 1), (1, 0, 3, 2), (0, 1, 2, 3, 4), (True, 0, 2), (0, True, 2), (False, 1, 2), (0, 1, 1), (1, 2, 3), ("0", 1, 2),
]


class Made(unittest.TestCase):
    def test_told_back(self):
        wish = Wish(WEB, 0, TOLD)
        self.assertEqual((wish.empty(), wish.told()), (0, TOLD))
        self.assertEqual(list(wish.told()), ["anna", "bert", "dora"])
        self.assertIs(type(wish.told()), dict)
        self.assertEqual(Wish(told=TOLD, empty=0, web=WEB), wish)

    def test_of_nobody_and_of_any_name(self):
        self.assertEqual(Wish(WEB, 4, {}).told(), {})
        self.assertEqual(Wish(Web(2, []), 1, {"zzzzzz": (0, None)}).told(), {"zzzzzz": (0, None)})

    def test_each_kind_of_dress_of_each_size(self):
        for size in SIZES:
            web = Web(2, [], size=size)
            spots = [("spot", spot, patch) for spot in range(size) for patch in range(size)]
            for dress in [None, *ALL[size], *spots]:
                self.assertEqual(Wish(web, 0, {"a": (1, dress)}).told(), {"a": (1, dress)})

    def test_what_was_handed_in_may_be_changed_behind(self):
        told = dict(TOLD)
        wish = Wish(WEB, 0, told)
        self.assertEqual(list(told.items()), list(TOLD.items()))
        told["anna"] = (2, None)
        del told["dora"]
        self.assertEqual(wish.told(), TOLD)

    def test_what_was_told_may_be_changed_behind(self):
        wish = Wish(WEB, 0, TOLD)
        wish.told().clear()
        wish.told()["anna"] = None
        self.assertEqual(wish.told(), TOLD)
        self.assertTrue(wish.granted(Standing(WEB, FOLK)))


class Refused(unittest.TestCase):
    def name(self, told, empty=0, web=WEB):
        return refused(self, BadFolk, Wish, web, empty, told).name

    def test_no_empty_place(self):
        for at, thing in enumerate([*NO_PLACES, 5, 6, 2 ** 70, (0,), [0], "0"]):
            with self.subTest(at=at):
                self.assertIs(refused(self, NoPlace, Wish, WEB, thing, TOLD).place, thing)
                # Ahead of all that is told.
                self.assertIs(refused(self, NoPlace, Wish, WEB, thing, None).place, thing)
                self.assertIs(refused(self, NoPlace, Wish, WEB, thing, {"ANNA": 1}).place, thing)

    def test_no_dict(self):
        for at, thing in enumerate([*ANYTHING, list(TOLD.items()), list(TOLD), tuple(TOLD)]):
            if not isinstance(thing, dict):
                with self.subTest(at=at):
                    self.assertIs(self.name(thing), None)

    def test_no_name(self):
        for at, key in enumerate(NO_NAMES):
            with self.subTest(at=at):
                self.assertEqual(self.name({key: (1, PLAIN)}), key)
                self.assertIs(type(self.name({"anna": (2, None), key: (1, None), "bert": None})), type(key))

    def test_no_pair(self):
        for at, pair in enumerate([*ANYTHING, [1, PLAIN], (1,), (PLAIN,), (PLAIN, 1), (1, None, 0), (1, "spot", 0, 0),
                                   ((1, PLAIN),), {1: PLAIN}, "1n"]):
            with self.subTest(at=at):
                self.assertEqual(self.name({"anna": (2, PLAIN), "dora": pair, "cora": None}), "dora")

    def test_no_place(self):
        for at, place in enumerate([5, 6, 2 ** 70, *NO_PLACES]):
            with self.subTest(at=at):
                self.assertEqual(self.name({"emil": (1, PLAIN), "dora": (place, PLAIN), "anna": (0, None)}), "dora")

    def test_the_empty_place(self):
        self.assertEqual(self.name({"anna": (0, None)}), "anna")
        self.assertEqual(self.name({"anna": (3, None), "bert": (2, None)}, empty=2), "bert")

    def test_a_place_told_ahead(self):
        self.assertEqual(self.name({"z": (1, None), "a": (1, None)}), "a")
        self.assertEqual(self.name({"z": (1, None), "a": (2, SWAP), "b": (1, PLAIN), "c": None}), "b")

    def test_no_dress(self):
        for at, dress in enumerate(NO_DRESSES):
            with self.subTest(at=at):
                self.assertEqual(self.name({"emil": (1, PLAIN), "dora": (2, dress), "anna": (0, None)}), "dora")
        for size in SIZES:
            web = Web(2, [], size=size)
            for at, thing in enumerate(NO_TURNS):
                if thing is not None:
                    with self.subTest(size=size, at=at):
                        self.assertEqual(self.name({"a": (1, thing)}, web=web), "a")
            for other in SIZES:
                if other != size:
                    self.assertEqual(self.name({"a": (1, plain_of(other))}, web=web), "a")
            for dress in (("spot", size, 0), ("spot", 0, size), ("spot", -1, 0), ("spot", 0, -1)):
                self.assertEqual(self.name({"a": (1, dress)}, web=web), "a")

    def test_the_first_wrong_key_by_the_dicts_own_order(self):
        self.assertEqual(self.name({"z": (1, None), "x": (1, None), "Y": (2, None), "a": None}), "x")
        self.assertEqual(self.name({"z": (1, None), "Y": (2, None), "x": (1, None), "a": None}), "Y")
        self.assertEqual(self.name({"z": (1, None), "a": (2, (0, 1)), "x": (0, None)}), "a")
        self.assertEqual(self.name({"z": (1, None), "x": (0, None), "a": (2, (0, 1))}), "x")
        self.assertEqual(self.name({7: (1, None), "a": None}), 7)


class Alike(unittest.TestCase):
    def test_told_in_another_order(self):
        wish = Wish(WEB, 0, TOLD)
        self.assertTrue(wish == Wish(WEB, 0, dict(reversed(TOLD.items()))))
        self.assertTrue(wish == Wish(Web(5, [*reversed(WEB.ways())]), 0, dict(TOLD)))
        self.assertFalse(wish != Wish(WEB, 0, dict(reversed(TOLD.items()))))

    def test_another_one(self):
        wish = Wish(WEB, 0, TOLD)
        for other in [Wish(WEB, 2, TOLD), Wish(Web(5, []), 0, TOLD), Wish(WEB, 0, {}),
                      Wish(WEB, 0, {**TOLD, "emil": (2, None)}), Wish(WEB, 0, {**TOLD, "anna": (2, THIRD)}),
                      Wish(WEB, 0, {**TOLD, "anna": (1, None)}), Wish(WEB, 0, {**TOLD, "anna": (1, SWAP)}),
                      Wish(WEB, 0, {**TOLD, "bert": (4, ("spot", 2, 1))}),
                      Wish(WEB, 0, {**TOLD, "bert": (4, ("spot", 1, 0))})]:
            self.assertFalse(wish == other)
            self.assertTrue(wish != other)

    def test_other_things(self):
        wish = Wish(WEB, 0, TOLD)
        for thing in [*ANYTHING, TOLD, WEB, Standing(WEB, FOLK)]:
            self.assertFalse(wish == thing)


class Granted(unittest.TestCase):
    def test_granted_or_not_for_one_thing(self):
        wish = Wish(WEB, 0, TOLD)
        self.assertIs(wish.granted(Standing(WEB, FOLK)), True)
        self.assertIs(wish.granted(standing=Standing(WEB, {**FOLK, "dora": (3, THIRD), "cora": (2, SWAP)})), True)
        self.assertIs(wish.granted(Standing(WEB, {**FOLK, "bert": (4, (1, 2, 0))})), True)
        for told in ({**FOLK, "bert": (4, (2, 0, 1))}, {**FOLK, "anna": (1, PLAIN)},
                     {**FOLK, "dora": (2, SWAP), "cora": (3, PLAIN)}, {**FOLK, "cora": (0, PLAIN), "dora": (3, SWAP)}):
            if told["cora"] == (0, PLAIN):
                # Then 2 is empty, not 0.
                self.assertEqual(Standing(WEB, told).empty(), 2)
            self.assertIs(wish.granted(Standing(WEB, told)), False)

    def test_a_name_that_is_not_there(self):
        wish = Wish(WEB, 0, {**TOLD, "emil": (2, None)})
        self.assertIs(wish.granted(Standing(WEB, FOLK)), False)
        self.assertIs(wish.granted(Standing(WEB, {**{n: FOLK[n] for n in ("anna", "bert", "dora")},
                                                  "emil": (2, PLAIN)})), True)

    def test_a_wish_of_nobody(self):
        self.assertIs(Wish(WEB, 0, {}).granted(Standing(WEB, FOLK)), True)
        self.assertIs(Wish(WEB, 1, {}).granted(Standing(WEB, FOLK)), False)

    def test_against_all_standings_that_come(self):
        pick = Random(1)
        web = web_by(4, [(0, 1), (1, 2), (2, 0), (2, 3), (3, 0)])
        standing = standing_of(web)
        rows = list(come(standing))
        self.assertGreater(len(rows), 2000)
        for _ in range(60):
            wish = some_wish(web, standing.names(), pick)
            some = [row for row in rows if grants_wish(row, wish)][:20]
            for row in [*some, *pick.sample(rows, 40)]:
                self.assertIs(wish.granted(standing_by(web, row)), grants_wish(row, wish))

    def test_unlike_of_another_webs(self):
        wish = Wish(WEB, 0, TOLD)
        for web in (Web(5, []), Web(5, [*WEB.ways(), (3, 4, PLAIN)]), Web(5, [(0, 1, PLAIN), *WEB.ways()[1:]])):
            refused(self, Unlike, wish.granted, Standing(web, FOLK))
        refused(self, Unlike, Wish(WEB, 0, {}).granted, standing_of(Web(4, [])))
        self.assertIs(wish.granted(Standing(Web(5, WEB.ways()), FOLK)), True)


class Led(unittest.TestCase):
    def test_told_examples(self):
        wish = Wish(WEB, 0, {"anna": (1, THIRD), "bert": (2, ("spot", 0, 2)), "cora": (4, SWAP)})
        # Who stands at 1 goes to 0 by the undone turn of who goes from 0 to 1.
        self.assertEqual(wish.led([1]), Wish(WEB, 1, {"anna": (0, PLAIN), "bert": (2, ("spot", 0, 2)),
                                                      "cora": (4, SWAP)}))
        # The patch at spot 0 is at spot 1 behind a turn that tells 0 there.
        self.assertEqual(wish.led([1, 2]).told()["bert"], (1, ("spot", 1, 2)))
        self.assertEqual(wish.led(walk=(1, 2)).empty(), 2)
        self.assertEqual(Wish(WEB, 0, {"a": (1, None)}).led([1, 0]), Wish(WEB, 0, {"a": (1, None)}))

    def test_just_those_grant_it_that_are_led_from_ones_that_grant_the_wish(self):
        pick = Random(2)
        for many, pairs, size in [(3, [(0, 1), (1, 2)], 2), (3, [(0, 1), (1, 2), (2, 0)], 3),
                                  (4, [(0, 1), (1, 2), (2, 0), (2, 3)], 2), (4, [(0, 1), (1, 2), (2, 3), (3, 0)], 2)]:
            web = web_by(many, pairs, size, pick.random())
            # All standings at all, by walks or not.
            everyone = {}
            for empty in range(many):
                for chance in range(300):
                    everyone[row_of(standing_of(web, empty, chance))] = True
            for _ in range(40):
                names = standing_of(web).names()
                wish = some_wish(web, ["a", "b", "cc", "dora", *names][:5], pick)
                walk = some_walk(web, wish.empty(), pick.randrange(6), pick.random())
                back = ([wish.empty()] + walk)[-2::-1]
                behind = wish.led(walk)
                self.assertIs(type(behind), Wish)
                for row in everyone:
                    standing = standing_by(web, row)
                    here = standing.empty() == behind.empty()
                    led_there = here and grants_wish(row_of(walked(standing, back)), wish)
                    self.assertIs(grants(row, behind.empty(), behind.told()), led_there)
                    self.assertIs(behind.granted(standing), led_there)

    def test_there_and_back(self):
        pick = Random(3)
        for web in some_webs(40):
            wish = some_wish(web, standing_of(web).names(), pick)
            walk = some_walk(web, wish.empty(), 30, pick.random())
            behind = wish.led(walk)
            self.assertEqual(behind.led(([wish.empty()] + walk)[-2::-1]), wish)
            self.assertEqual(wish.led(tuple(walk)), behind)
            self.assertEqual(wish_of(standing_of(web, wish.empty())).led(walk),
                             wish_of(walked(standing_of(web, wish.empty()), walk)))

    def test_none_at_all_and_nothing_is_changed(self):
        wish = Wish(WEB, 0, TOLD)
        walk = [1, 2, 3]
        behind = wish.led(walk)
        self.assertEqual((walk, wish), ([1, 2, 3], Wish(WEB, 0, TOLD)))
        walk.clear()
        self.assertEqual(behind.empty(), 3)
        self.assertEqual(wish.led([]), wish)
        self.assertEqual(wish.led(()), wish)

    def test_no_list(self):
        for at, walk in enumerate([*NO_LISTS, WEB, {1: 2}, "1"]):
            with self.subTest(at=at):
                self.assertEqual(refused(self, NoStep, Wish(WEB, 0, TOLD).led, walk).at, 0)

    def test_the_first_that_is_not_beside(self):
        for at, thing in enumerate([*ANYTHING, 0, 3, 4, 5, 2 ** 70, (1,), [1], "1"]):
            with self.subTest(at=at):
                self.assertEqual(refused(self, NoStep, Wish(WEB, 0, TOLD).led, [1, 0, thing, thing]).at, 2)
                self.assertEqual(refused(self, NoStep, Wish(WEB, 0, TOLD).led, (thing, 7)).at, 0)
        # True and False are no places, though Python has them like 1 and 0.
        self.assertEqual(refused(self, NoStep, Wish(WEB, 0, {}).led, [True]).at, 0)
        self.assertEqual(refused(self, NoStep, Wish(WEB, 1, {}).led, [0, 1, False]).at, 2)


class WishOf(unittest.TestCase):
    def test_it_alone_grants_it(self):
        pick = Random(4)
        for web in some_webs(20):
            standing = standing_of(web, pick.randrange(web.many()))
            wish = wish_of(standing=standing)
            self.assertEqual(wish, Wish(web, standing.empty(), standing.folk()))
            self.assertIs(wish.granted(standing), True)
            for row in list(come(standing, 200))[1:]:
                self.assertIs(wish.granted(standing_by(web, row)), False)

    def test_the_dict_is_the_askers_own(self):
        standing = Standing(WEB, FOLK)
        wish_of(standing).told().clear()
        self.assertEqual((standing.folk(), wish_of(standing).told()), (FOLK, FOLK))
        self.assertEqual(wish_of(standing_of(web_of("seven"))).empty(), 0)


if __name__ == "__main__":
    unittest.main()
