"""[5.1], as far as standings go, and their interface."""

import unittest
from itertools import permutations

from tests.nets import ANYTHING, NO_PLACES, WEBS, beside_of, some_webs, standing_of, stepped, web_of
from tests.things import ALL, NO_TURNS, SIZES, plain_of, refused
from turncoats.errors import BadFolk, NoName, NoPlace, NoStep
from turncoats.standings import Standing
from turncoats.webs import Web

PLAIN, THIRD, SWAP = (0, 1, 2), (1, 2, 0), (1, 0, 2)
WEB = Web(4, [(0, 1, THIRD), (1, 2, SWAP), (3, 1, (0, 2, 1))])
FOLK = {"dora": (3, SWAP), "anna": (0, PLAIN), "emil": (2, THIRD)}
NO_NAMES = [None, True, False, 0, 1, -5, 10 ** 30, "", " ", "Anna", "ANNA", "annA", "anna1", "an na", " anna", "anna ",
            "abcdefg", "a" * 300, "a-b", "a.b", "~", "a\n", "\n", "{", "`", "anna_b", (), ("anna",), (0, 1),
            (None, "a")]


class Made(unittest.TestCase):
    def test_one_place_is_empty(self):
        standing = Standing(WEB, FOLK)
        self.assertEqual((standing.empty(), standing.names()), (1, ["anna", "dora", "emil"]))
        self.assertEqual(standing.folk(), FOLK)
        self.assertEqual(Standing(folk=FOLK, web=WEB), standing)

    def test_any_place_and_any_coats(self):
        for size in SIZES:
            web = Web(3, [(0, 1, plain_of(size))], size=size)
            for one, other in permutations(range(3), 2):
                for coat in ALL[size][::5]:
                    standing = Standing(web, {"a": (one, coat), "zzzzzz": (other, plain_of(size))})
                    self.assertEqual(standing.empty(), 3 - one - other)
                    self.assertEqual((standing.coat("a"), standing.where("a")), (coat, one))

    def test_the_dict_may_be_changed_behind(self):
        folk = dict(FOLK)
        standing = Standing(WEB, folk)
        self.assertEqual(list(folk.items()), list(FOLK.items()))
        folk["anna"] = (1, THIRD)
        del folk["dora"]
        self.assertEqual(standing.folk(), FOLK)
        self.assertEqual([standing.who(place) for place in range(4)], ["anna", None, "emil", "dora"])


class Refused(unittest.TestCase):
    def name(self, folk, web=WEB):
        return refused(self, BadFolk, Standing, web, folk).name

    def test_no_dict(self):
        for at, thing in enumerate([thing for thing in ANYTHING if not isinstance(thing, dict)]):
            with self.subTest(at=at):
                self.assertIs(self.name(thing), None)
        self.assertIs(self.name(list(FOLK.items())), None)

    def test_no_name(self):
        for at, key in enumerate(NO_NAMES):
            with self.subTest(at=at):
                self.assertEqual(self.name({key: (1, PLAIN)}), key)
                self.assertEqual(self.name({**FOLK, key: (1, PLAIN)}), key)
                self.assertIs(type(self.name({key: None, **FOLK})), type(key))

    def test_no_pair(self):
        for at, pair in enumerate([
                *ANYTHING, 1, [1, PLAIN], (1,), (PLAIN,), (PLAIN, 1), (1, PLAIN, 0), (1, 0, 1, 2), (1, list(PLAIN)),
                ((1, PLAIN),), {1: PLAIN}, ("1", PLAIN), (1, "012"), (1, None)]):
            with self.subTest(at=at):
                self.assertEqual(self.name({"anna": (0, PLAIN), "dora": pair}), "dora")
                self.assertEqual(self.name({"berta": pair, **FOLK, "anna": pair}), "berta")

    def test_no_place(self):
        for at, place in enumerate([4, 5, 2 ** 70, *NO_PLACES]):
            with self.subTest(at=at):
                self.assertEqual(self.name({"anna": (0, PLAIN), "dora": (place, PLAIN), "emil": (2, PLAIN)}), "dora")

    def test_a_place_that_one_ahead_has(self):
        self.assertEqual(self.name({**FOLK, "anna": (3, PLAIN)}), "anna")
        self.assertEqual(self.name({"berta": (3, PLAIN), **FOLK, "emil": (3, PLAIN)}), "dora")
        self.assertEqual(self.name({"z": (0, PLAIN), "a": (0, PLAIN)}), "a")

    def test_no_coat_or_one_of_another_size(self):
        for size in SIZES:
            web = Web(3, [], size=size)
            for at, coat in enumerate(NO_TURNS):
                with self.subTest(size=size, at=at):
                    self.assertEqual(self.name({"a": (0, plain_of(size)), "b": (1, coat)}, web), "b")
            for other in SIZES:
                if other != size:
                    self.assertEqual(self.name({"b": (0, plain_of(other)), "a": (1, None)}, web), "b")

    def test_not_just_one_place_is_empty(self):
        self.assertIs(self.name({}), None)
        self.assertIs(self.name({"anna": (0, PLAIN), "dora": (3, PLAIN)}), None)
        self.assertIs(self.name({**FOLK, "fritz": (1, PLAIN)}), None)
        self.assertIs(self.name({"a": (0, PLAIN), "b": (1, PLAIN)}, Web(2, [])), None)

    def test_more_folk_than_places(self):
        self.assertEqual(self.name({**FOLK, "fritz": (1, PLAIN), "gerda": (2, PLAIN)}), "gerda")

    def test_the_first_wrong_key_by_the_dicts_own_order(self):
        self.assertEqual(self.name({"z": (0, PLAIN), "Y": (1, PLAIN), "x": None, "a": (0, PLAIN)}), "Y")
        self.assertEqual(self.name({"z": (0, PLAIN), "x": None, "Y": (1, PLAIN), "a": (0, PLAIN)}), "x")
        self.assertEqual(self.name({"z": (0, PLAIN), "b": (0, PLAIN), "x": None, "A": 1}), "b")
        self.assertEqual(self.name({7: (0, PLAIN), "a": (0, PLAIN)}), 7)

    def test_a_wrong_key_comes_ahead_of_how_many_are_empty(self):
        self.assertEqual(self.name({"anna": (0, SWAP), "dora": (0, SWAP)}), "dora")
        self.assertEqual(self.name({"ANNA": (0, SWAP)}), "ANNA")


class Looks(unittest.TestCase):
    def setUp(self):
        self.standing = Standing(WEB, FOLK)

    def test_web_and_empty(self):
        self.assertEqual(self.standing.web(), WEB)
        for web in WEBS.values():
            self.assertEqual([standing_of(web, place).empty() for place in range(web.many())], list(range(web.many())))

    def test_folk_is_by_rising_names_and_the_askers_own(self):
        told = self.standing.folk()
        self.assertIs(type(told), dict)
        self.assertEqual(list(told.items()), [("anna", (0, PLAIN)), ("dora", (3, SWAP)), ("emil", (2, THIRD))])
        told["anna"] = (1, PLAIN)
        told.clear()
        self.assertEqual(list(self.standing.folk().items()), sorted(FOLK.items()))
        self.assertEqual(self.standing.where("anna"), 0)

    def test_names_rise_and_are_the_askers_own(self):
        self.assertEqual(self.standing.names(), ["anna", "dora", "emil"])
        self.standing.names().clear()
        self.assertEqual(self.standing.names(), ["anna", "dora", "emil"])

    def test_where_and_coat(self):
        for name, (place, coat) in FOLK.items():
            self.assertEqual((self.standing.where(name), self.standing.coat(name)), (place, coat))
            self.assertEqual((self.standing.where(name=name), self.standing.coat(name=name)), (place, coat))

    def test_no_name(self):
        for at, name in enumerate([*NO_NAMES, *[thing for thing in ANYTHING if thing != "anna"], "ann", "annaa", "z"]):
            with self.subTest(at=at):
                self.assertIs(refused(self, NoName, self.standing.where, name).name, name)
                self.assertIs(refused(self, NoName, self.standing.coat, name).name, name)

    def test_who(self):
        self.assertEqual([self.standing.who(place) for place in range(4)], ["anna", None, "emil", "dora"])
        self.assertEqual(self.standing.who(place=0), "anna")
        for at, place in enumerate([4, 2 ** 70, *NO_PLACES]):
            with self.subTest(at=at):
                self.assertIs(refused(self, NoPlace, self.standing.who, place).place, place)


class Step(unittest.TestCase):
    def test_told_examples(self):
        standing = Standing(WEB, FOLK)
        behind = standing.step(0)
        self.assertEqual(behind.folk(), {**FOLK, "anna": (1, THIRD)})
        self.assertEqual((behind.empty(), behind.web()), (0, WEB))
        self.assertEqual(standing.step(2).folk(), {**FOLK, "emil": (1, (2, 1, 0))})
        self.assertEqual(standing.step(place=3).folk(), {**FOLK, "dora": (1, (1, 2, 0))})
        self.assertEqual(standing, Standing(WEB, FOLK))

    def test_who_stands_there_goes_and_is_turned(self):
        for web in [*WEBS.values(), *some_webs(60)]:
            for place in range(web.many()):
                standing = standing_of(web, place)
                folk = standing.folk()
                for other in range(web.many()):
                    if other in beside_of(web)[place]:
                        behind = standing.step(other)
                        self.assertEqual(behind.folk(), stepped(web, folk, place, other))
                        self.assertEqual((behind.empty(), behind.who(place)), (other, standing.who(other)))
                        self.assertEqual(behind.step(place), standing)
                    else:
                        self.assertEqual(refused(self, NoStep, standing.step, other).at, 0)
                self.assertEqual(standing.folk(), folk)

    def test_the_empty_place_itself(self):
        self.assertEqual(refused(self, NoStep, Standing(WEB, FOLK).step, 1).at, 0)

    def test_no_place_comes_ahead(self):
        standing = Standing(WEB, FOLK)
        for at, place in enumerate([4, 2 ** 70, *NO_PLACES]):
            with self.subTest(at=at):
                self.assertIs(refused(self, NoPlace, standing.step, place).place, place)


class Alike(unittest.TestCase):
    def test_where_web_and_folk_are(self):
        one = Standing(WEB, FOLK)
        for other in [Standing(WEB, dict(sorted(FOLK.items()))), Standing(Web(4, WEB.ways()[::-1]), FOLK), one]:
            self.assertTrue(one == other)
            self.assertFalse(one != other)

    def test_not_where_one_is_unlike(self):
        one = Standing(WEB, FOLK)
        for other in [Standing(Web(4, WEB.ways()[1:]), FOLK), Standing(WEB, {**FOLK, "anna": (0, SWAP)}),
                      Standing(WEB, {**FOLK, "anna": (1, PLAIN)}),
                      Standing(WEB, {"dora": (3, SWAP), "hanna": (0, PLAIN), "emil": (2, THIRD)})]:
            self.assertFalse(one == other)
            self.assertTrue(one != other)

    def test_not_to_other_things(self):
        one = Standing(WEB, FOLK)
        for at, thing in enumerate([*ANYTHING, FOLK, WEB]):
            with self.subTest(at=at):
                self.assertFalse(one == thing)
                self.assertTrue(one != thing)

    def test_told_by_any_folk(self):
        for shape in ("row", "five", "cube"):
            web = web_of(shape)
            told = [standing_of(web, place, chance) for place in range(web.many()) for chance in range(3)]
            for one in told:
                for other in told:
                    self.assertIs(one == other, one.folk() == other.folk())


if __name__ == "__main__":
    unittest.main()
