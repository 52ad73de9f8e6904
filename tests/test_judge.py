"""[10.1] to [10.3]: the judge."""

import unittest
from itertools import combinations, permutations
from random import Random

from tests.barring import (
    A3, AT_FIVE, AT_FOUR, AT_SEVEN, AT_TWO, FIVE, FOUR, PLAIN, S2, S3, SEVEN, SWAP, THIRD, TWO, exchanged,
    folk_of, is_bar, near_of, parts_there, put_for, wish_with,
)
from tests.comes import come, grants_wish, near_miss, some_wish, web_with
from tests.nets import ANYTHING, standing_of
from tests.things import ALL, GROUPS, NO_GROUPS, composed, inverse, refused
from turncoats.bars import bar
from turncoats.errors import NoWish, Unlike
from turncoats.finds import fives_found
from turncoats.groups import leadings, thirds
from turncoats.judge import bars
from turncoats.marks import pairings_of
from turncoats.nooks import Nook
from turncoats.parts import kind
from turncoats.standings import Standing
from turncoats.webs import Web
from turncoats.wishes import Wish, wish_of

FOLK = AT_TWO.folk()
FOUR_FOLK, FIVE_FOLK, SEVEN_FOLK = AT_FOUR.folk(), AT_FIVE.folk(), AT_SEVEN.folk()
SIGNS = ("sign", (0, 1, 2, 3), {(0, 1): 1, (1, 0): -1}, {0: 1, 1: -1, 2: -1, 3: -1})
EXCHANGED = wish_with(AT_FOUR, exchanged(FOUR_FOLK, "a", "b"))
GONE_ON = wish_with(AT_FIVE, exchanged(exchanged(FIVE_FOLK, "a", "b"), "b", "c"))
THIRDS = bar(AT_FIVE, GONE_ON)
MIXED = wish_with(AT_SEVEN, exchanged(exchanged(SEVEN_FOLK, "a", "b"), "b", "c"))
ROWS = bar(AT_SEVEN, MIXED)


def another(told, key, worth):
    """A dict with another worth of a key."""
    return {**told, key: worth}


def without(told, key):
    return {one: told[one] for one in told if one != key}


def as_lists(thing):
    """Each tuple within a thing as a list, one at a time."""
    if isinstance(thing, tuple):
        yield list(thing)
    if isinstance(thing, (tuple, dict)):
        for spoiled in inner(thing, as_lists):
            yield spoiled


def inner(thing, spoil):
    """A tuple or a dict with one of the things in it spoiled."""
    if isinstance(thing, dict):
        for key in thing:
            for told in spoil(thing[key]):
                yield {**thing, key: told}
        return
    for at, part in enumerate(thing):
        for told in spoil(part):
            yield (*thing[:at], told, *thing[at + 1:])


def as_truths(thing):
    """Each 0 and 1 within a thing as a truth, one at a time, those in keys too."""
    if isinstance(thing, int) and thing in (0, 1):
        yield bool(thing)
    if isinstance(thing, dict):
        for key in thing:
            for told in as_truths(key):
                yield {(told if one == key else one): thing[one] for one in thing}
    if isinstance(thing, (tuple, dict)):
        for spoiled in inner(thing, as_truths):
            yield spoiled


def as_anything(deep):
    """Each thing within a thing, some way down, as anything else, one at a time."""
    def spoil(thing):
        for other in ANYTHING:
            yield other
        if isinstance(thing, (tuple, dict)) and deep > 0:
            for spoiled in inner(thing, as_anything(deep - 1)):
                yield spoiled
    return spoil


def is_the_same(one, other):
    """Whether two things are alike without truths for numbers."""
    if type(one) is not type(other) or one != other:
        return False
    if isinstance(one, dict):
        return all(is_the_same(worth, other[key]) for key, worth in one.items())
    return not isinstance(one, tuple) or all(is_the_same(*two) for two in zip(one, other))


class Case(unittest.TestCase):
    def lets(self, standing, wish, thing):
        self.assertIs(bars(standing, wish, thing), True, thing)

    def bans(self, standing, wish, *things):
        for at, thing in enumerate(things):
            with self.subTest(at=at):
                self.assertIs(bars(standing, wish, thing), False)


class Apart(Case):
    def test_where_the_wishs_empty_place_is_not_joined(self):
        away = Wish(TWO, 6, {"a": (0, None), "f": (7, None)})
        self.lets(AT_TWO, away, ("apart",))
        self.bans(AT_TWO, away, ("apart", 1), ("apart", ()), ["apart"], ("Apart",), "apart", ("folk", (0, 1, 2), "a"))
        for place in range(6):
            self.bans(AT_TWO, Wish(TWO, place, {"f": (7, PLAIN)}), ("apart",))

    def test_then_still_can_be_a_bar_and_nothing_else(self):
        away = Wish(TWO, 6, {"a": (0, SWAP), "f": (7, None), "g": (5, None), "e": (4, None)})
        self.lets(AT_TWO, away, ("still", "f"))
        self.lets(AT_TWO, away, ("still", "g"))
        self.bans(AT_TWO, away, ("still", "e"), ("still", "a"), ("about", (0, 1, 2)), ("folk", (2, 3, 4), "a"),
                  ("folk", (0, 1, 2), "e"), ("lot", (4, 5), "e", (PLAIN,)), ("folk", (4, 5), "g"))


class Still(Case):
    def test_who_stands_or_is_asked_to_stand_where_no_walk_comes(self):
        for told, right in [
                ({"f": (7, None)}, True), ({"f": (6, SWAP)}, True), ({"f": (6, ("spot", 0, 1))}, True),
                ({"f": (1, None)}, True), ({"f": (6, None)}, False), ({"f": (6, PLAIN)}, False),
                ({"f": (6, ("spot", 2, 2))}, False), ({"g": (7, None)}, False), ({}, False)]:
            self.assertIs(bars(AT_TWO, wish_with(AT_TWO, told), ("still", "f")), right, told)
        # One of the others is asked there.
        self.lets(AT_TWO, wish_with(AT_TWO, {"a": (6, None)}), ("still", "a"))
        self.bans(AT_TWO, wish_with(AT_TWO, {"a": (5, SWAP)}), ("still", "a"), ("still", "f"))

    def test_other_names(self):
        wish = wish_with(AT_TWO, {"f": (7, None)})
        self.lets(AT_TWO, wish, ("still", "f"))
        self.bans(AT_TWO, wish, ("still", "g"), ("still", "a"), ("still", "x"), ("still",), ("still", "f", "f"),
                  ["still", "f"], ("still", ("f",)), ("still", ["f"]), ("still", {"f": 1}), ("apart", "f"))


class Folk(Case):
    WISH = wish_with(AT_TWO, {"c": (1, None), "d": (3, None), "b": (4, None), "e": (5, None), "f": (2, None)})

    def test_who_is_asked_from_elsewhere(self):
        self.lets(AT_TWO, self.WISH, ("folk", (0, 1, 2), "c"))
        # 2 is the root of the other round from here.
        self.lets(AT_TWO, self.WISH, ("folk", (2, 3, 4), "b"))
        self.lets(AT_TWO, self.WISH, ("folk", (0, 1, 2), "f"))
        self.lets(AT_TWO, wish_with(AT_TWO, {"a": (5, None)}), ("folk", (4, 5), "a"))
        self.lets(AT_TWO, wish_with(AT_TWO, {"d": (5, PLAIN)}), ("folk", (4, 5), "d"))

    def test_one_clause_broken(self):
        self.bans(AT_TWO, self.WISH, ("folk", (2, 3, 4), "c"), ("folk", (2, 3, 4), "d"), ("folk", (0, 1, 2), "b"),
                  ("folk", (4, 5), "e"), ("folk", (4, 5), "c"), ("folk", (0, 1, 2), "a"), ("folk", (6, 7), "f"),
                  ("folk", (2, 3, 4), "f"), ("folk", (0, 1, 2), "x"), ("folk", (0, 1), "c"), ("folk", (1, 0, 2), "c"),
                  ("folk", [0, 1, 2], "c"), ("folk", (0, True, 2), "c"), ("folk", (False, 1, 2), "c"),
                  ("folk", (0, 1, 2)), ("folk", (0, 1, 2), "c", 0), ["folk", (0, 1, 2), "c"],
                  ("lot", (0, 1, 2), "c"), ("about", (0, 1, 2), "c"))

    def test_the_roots_place(self):
        # From 3 on 2 is the root of (0, 1, 2), so who stands there is of (2, 3, 4).
        standing = Standing(TWO, {**without(FOLK, "c"), "h": (0, PLAIN)})
        self.assertEqual(standing.empty(), 3)
        self.bans(standing, wish_with(standing, {"d": (2, None)}), ("folk", (0, 1, 2), "d"), ("folk", (2, 3, 4), "d"))
        self.lets(standing, wish_with(standing, {"a": (2, None)}), ("folk", (2, 3, 4), "a"))
        self.bans(standing, wish_with(standing, {"a": (2, None)}), ("folk", (0, 1, 2), "a"))

    def test_by_the_near_wish(self):
        # When the empty place goes from 3 by 2 to 0, who stands at 2 goes to 3, and who stands at 0 to 2.
        wish = Wish(TWO, 3, {"c": (2, None), "a": (1, None)})
        self.assertEqual(near_of(AT_TWO, wish).told(), {"c": (3, None), "a": (1, None)})
        for name in "abcdefg":
            for part in ((0, 1, 2), (2, 3, 4), (4, 5)):
                thing = ("folk", part, name)
                self.assertIs(bars(AT_TWO, wish, thing), is_bar(AT_TWO, wish, thing))


class About(Case):
    def test_a_round_gone_about_in_vain(self):
        wish = wish_with(AT_TWO, exchanged(FOLK, "c", "d"))
        self.lets(AT_TWO, wish, ("about", (2, 3, 4)))
        self.bans(AT_TWO, wish, ("about", (0, 1, 2)), ("about", (4, 5)), ("about", (6, 7)), ("about", (3, 4)),
                  ("about", (2, 4, 3)), ("about", [2, 3, 4]), ("about",), ("about", (2, 3, 4), 0),
                  ["about", (2, 3, 4)], ("round", (2, 3, 4)))
        self.lets(AT_TWO, wish_with(AT_TWO, {"a": (1, SWAP)}), ("about", (0, 1, 2)))
        self.bans(AT_TWO, wish_with(AT_TWO, {"a": (1, None)}), ("about", (0, 1, 2)))
        self.bans(AT_TWO, wish_of(AT_TWO), ("about", (0, 1, 2)), ("about", (2, 3, 4)))

    def test_a_part_of_another_kind(self):
        self.bans(AT_FOUR, EXCHANGED, ("about", (0, 1, 2, 3)))
        self.bans(AT_FIVE, GONE_ON, ("about", (0, 1, 2, 3, 4)), ("about", (4, 5)))
        self.bans(AT_SEVEN, MIXED, ("about", (0, 1, 2, 3, 4, 5, 6)))

    def test_who_comes_from_elsewhere_can_not_come_about(self):
        self.lets(AT_TWO, wish_with(AT_TWO, {"a": (3, None)}), ("about", (2, 3, 4)))
        # Who is asked away from it isn't asked of it.
        self.bans(AT_TWO, wish_with(AT_TWO, {"a": (3, None)}), ("about", (0, 1, 2)))


class Lot(Case):
    WISH = wish_with(AT_TWO, {"e": (5, SWAP), "d": (3, SWAP)})
    DRESSED = wish_with(AT_FIVE, {"a": (1, SWAP), "b": (2, THIRD), "c": (3, ("spot", 0, 0)), "d": (4, None),
                                  "e": (5, SWAP)})

    def test_of_a_way_own_turns_are_plain(self):
        self.lets(AT_TWO, self.WISH, ("lot", (4, 5), "e", (PLAIN,)))
        self.lets(AT_TWO, self.WISH, ("lot", (4, 5), "e", A3))
        # The change is told by own turns: 5 is as high as the way from 4 turns.
        change = composed(composed(THIRD, SWAP), inverse(THIRD))
        for group in GROUPS[3]:
            self.assertIs(bars(AT_TWO, self.WISH, ("lot", (4, 5), "e", group)), change not in group)
        self.bans(AT_TWO, wish_with(AT_TWO, {"e": (5, PLAIN)}), ("lot", (4, 5), "e", (PLAIN,)))
        self.bans(AT_TWO, wish_with(AT_TWO, {"e": (5, ("spot", 0, 0))}), ("lot", (4, 5), "e", (PLAIN,)))
        self.lets(AT_TWO, wish_with(AT_TWO, {"e": (5, ("spot", 0, 1))}), ("lot", (4, 5), "e", (PLAIN,)))
        self.bans(AT_TWO, wish_with(AT_TWO, {"e": (5, None)}), ("lot", (4, 5), "e", (PLAIN,)))

    def test_of_a_round_there_is_none(self):
        self.bans(AT_TWO, self.WISH, *[("lot", (2, 3, 4), "d", group) for group in GROUPS[3]])

    def test_the_group_holds_all_own_turns_and_none_that_changes_so(self):
        self.lets(AT_FIVE, self.DRESSED, ("lot", (0, 1, 2, 3, 4), "a", A3))
        for group in GROUPS[3]:
            if group != A3:
                self.bans(AT_FIVE, self.DRESSED, ("lot", (0, 1, 2, 3, 4), "a", group))

    def test_names(self):
        self.bans(AT_FIVE, self.DRESSED, *[("lot", (0, 1, 2, 3, 4), name, A3) for name in "bcdex"],
                  ("lot", (4, 5), "a", A3), ("lot", (4, 5), "d", (PLAIN,)), ("lot", (4, 5), "e", (PLAIN,)))
        # Who isn't told of, and who is asked away, isn't told to stand there.
        self.bans(AT_FIVE, wish_with(AT_FIVE, {}), ("lot", (0, 1, 2, 3, 4), "a", A3))
        self.bans(AT_FIVE, wish_with(AT_FIVE, {"a": (5, SWAP)}), ("lot", (0, 1, 2, 3, 4), "a", A3),
                  ("lot", (4, 5), "a", (PLAIN,)))

    def test_no_group(self):
        things = [*NO_GROUPS, *ANYTHING, *GROUPS[2], *GROUPS[4], list(A3), A3[::-1], A3[1:], (PLAIN, THIRD),
                  ((False, 1, 2), *A3[1:]), ((0, True, 2), *A3[1:]), ([0, 1, 2], *A3[1:]), (*A3, THIRD), A3 + ((),)]
        self.bans(AT_FIVE, self.DRESSED, *[("lot", (0, 1, 2, 3, 4), "a", thing) for thing in things])

    def test_one_clause_broken(self):
        self.bans(AT_FIVE, self.DRESSED, ("lot", (0, 1, 2, 3), "a", A3), ("lot", (0, 1, 2, 4, 3), "a", A3),
                  ("lot", [0, 1, 2, 3, 4], "a", A3), ("lot", (False, 1, 2, 3, 4), "a", A3),
                  ("lot", (0, 1, 2, 3, 4), "a"), ("lot", (0, 1, 2, 3, 4), "a", A3, A3), ("folk", (0, 1, 2, 3, 4), "a"),
                  ["lot", (0, 1, 2, 3, 4), "a", A3], ("sign", (0, 1, 2, 3, 4), "a", A3),
                  ("lot", (0, 1, 2, 3, 4), A3, "a"))


class Sign(Case):
    def test_an_exchange_that_turns_nobody(self):
        self.lets(AT_FOUR, EXCHANGED, SIGNS)
        # All signs the other way about.
        self.lets(AT_FOUR, EXCHANGED, (*SIGNS[:3], {place: -SIGNS[3][place] for place in (3, 1, 0, 2)}))
        self.bans(AT_FOUR, wish_of(AT_FOUR), SIGNS)
        turned = {**exchanged(FOUR_FOLK, "a", "b"), "c": (3, (0, 1))}
        self.bans(AT_FOUR, wish_with(AT_FOUR, turned), SIGNS)
        self.lets(AT_FOUR, wish_with(AT_FOUR, {**FOUR_FOLK, "c": (3, (0, 1))}), SIGNS)
        self.lets(AT_FOUR, wish_with(AT_FOUR, {**FOUR_FOLK, "c": (3, ("spot", 0, 0))}), SIGNS)

    def test_where_one_coat_is_free_there_is_none(self):
        for told in ({**exchanged(FOUR_FOLK, "a", "b"), "c": (3, None)}, without(exchanged(FOUR_FOLK, "a", "b"), "c"),
                     {"a": (2, (0, 1)), "b": (1, (0, 1))}, {"a": (2, (0, 1))}, {}):
            self.bans(AT_FOUR, wish_with(AT_FOUR, told), SIGNS)

    def test_signs_that_do_not_go_with_one_way(self):
        part, leading = SIGNS[1:3]
        for told in range(16):
            signs = {place: 1 if told >> place & 1 else -1 for place in range(4)}
            self.assertIs(bars(AT_FOUR, EXCHANGED, ("sign", part, leading, signs)), told in (1, 14))

    def test_keys_that_lack_or_are_too_many(self):
        word, part, leading, signs = SIGNS
        for told in (without(signs, 3), without(signs, 0), another(signs, 4, 1), another(without(signs, 3), 4, -1), {},
                     another(signs, "0", 1), another(signs, None, 1), another(without(signs, 1), True, -1),
                     another(without(signs, 0), False, 1), another(signs, (), 1), list(signs)):
            self.bans(AT_FOUR, EXCHANGED, (word, part, leading, told))
        for told in (without(leading, (1, 0)), without(leading, (0, 1)), {}, another(leading, (0, 1, 2), 1),
                     another(without(leading, (0, 1)), (False, True), 1), another(leading, 0, 1), S2,
                     another(without(leading, (1, 0)), (True, 0), -1), another(leading, (0, 0), 1), list(S2)):
            self.bans(AT_FOUR, EXCHANGED, (word, part, told, signs))

    def test_no_leading_and_no_signs(self):
        word, part, leading, signs = SIGNS
        for worth in (1, 0, 2, -2, True, None, "1", "-1", (), [-1], {}, (1,), 10 ** 5000):
            self.bans(AT_FOUR, EXCHANGED, (word, part, another(leading, (1, 0), worth), signs))
            self.bans(AT_FOUR, EXCHANGED, (word, part, leading, another(signs, 2, worth)))
        self.bans(AT_FOUR, EXCHANGED, (word, part, another(leading, (0, 1), -1), signs),
                  (word, part, another(leading, (0, 1), True), signs), (word, part, leading, another(signs, 0, True)))

    def test_a_greater_group_and_one_that_lacks_an_own_turn(self):
        # A web of three patches, the own turns of which are in one exchange's group alone.
        web = Web(4, [(0, 1, PLAIN), (0, 2, PLAIN), (0, 3, PLAIN), (1, 2, SWAP), (2, 3, SWAP)])
        standing = Standing(web, folk_of([("a", 1, PLAIN), ("b", 2, PLAIN), ("c", 3, PLAIN)]))
        wish = wish_with(standing, exchanged(standing.folk(), "a", "c"))
        few = (PLAIN, SWAP)
        signs = SIGNS[3]
        for group in (few, S3):
            for leading in leadings(group):
                thing = ("sign", (0, 1, 2, 3), leading, signs)
                self.assertIs(bars(standing, wish, thing), -1 in leading.values())
        for group in GROUPS[3]:
            for leading in leadings(group):
                if SWAP not in group:
                    self.bans(standing, wish, ("sign", (0, 1, 2, 3), leading, signs))
        # In the greater group more comes by changes in it: with a coat that the lesser one bars too.
        third = wish_with(standing, {**standing.folk(), "a": (1, ("spot", 2, 0)), "b": (2, None)})
        self.lets(standing, third, ("sign", (0, 1, 2, 3), leadings(few)[1], signs))
        self.bans(standing, third, ("sign", (0, 1, 2, 3), leadings(S3)[1], signs))
        # A leading of all turns that isn't one: each tells a sign, but not the product's.
        wrong = {turn: -1 if turn == SWAP else 1 for turn in S3}
        self.bans(standing, wish, ("sign", (0, 1, 2, 3), wrong, signs))

    def test_a_part_of_another_kind(self):
        self.bans(AT_TWO, wish_with(AT_TWO, exchanged(FOLK, "c", "d")),
                  ("sign", (2, 3, 4), leadings(S3)[1], {2: 1, 3: -1, 4: 1}),
                  ("sign", (4, 5), {PLAIN: 1}, {4: 1, 5: -1}))
        # A round of four with plain ways has signs, but isn't asked by them.
        web = Web(4, [(0, 1, (0, 1)), (1, 2, (0, 1)), (2, 3, (0, 1)), (3, 0, (0, 1))], size=2)
        standing = standing_of(web)
        (one, other, _) = standing.names()
        wish = wish_with(standing, exchanged(standing.folk(), one, other))
        self.bans(standing, wish, ("sign", (0, 1, 2, 3), {(0, 1): 1}, {0: 1, 1: -1, 2: 1, 3: -1}))
        self.lets(standing, wish, ("about", (0, 1, 2, 3)))

    def test_fives_and_sevens_have_signs_too(self):
        odd = wish_with(AT_FIVE, exchanged(FIVE_FOLK, "a", "b"))
        signs = {0: 1, 1: 1, 2: -1, 3: -1, 4: -1}
        for group in (A3, S3):
            self.lets(AT_FIVE, odd, ("sign", (0, 1, 2, 3, 4), leadings(group)[0], signs))
        self.bans(AT_FIVE, GONE_ON, ("sign", (0, 1, 2, 3, 4), leadings(A3)[0], signs))
        # Whoever isn't told may change places with another one.
        self.bans(AT_FIVE, wish_with(AT_FIVE, {"a": (2, None), "b": (1, None)}),
                  ("sign", (0, 1, 2, 3, 4), leadings(A3)[0], signs))
        # By one way turned both rounds of five turn a coat, that of six doesn't.
        web = Web(7, [(one, other, (1, 0) if (one, other) == (0, 6) else turn) for one, other, turn in SEVEN.ways()],
                  size=2)
        standing = Standing(web, SEVEN_FOLK)
        wish = wish_with(standing, {**SEVEN_FOLK, "a": (1, (1, 0))})
        found = bar(standing, wish)
        self.assertEqual(found[0], "sign")
        self.assertTrue(is_bar(standing, wish, found))
        self.bans(standing, wish_with(standing, {**SEVEN_FOLK, "a": (1, (1, 0)), "b": (2, (1, 0))}), found)

    def test_one_clause_broken(self):
        word, part, leading, signs = SIGNS
        self.bans(AT_FOUR, EXCHANGED, SIGNS[:3], (*SIGNS, 0), list(SIGNS), ("thirds", part, leading, signs),
                  ("sign", (0, 1, 2), leading, signs), ("sign", (0, 1, 3, 2), leading, signs),
                  ("sign", list(part), leading, signs), ("sign", (False, 1, 2, 3), leading, signs),
                  (word, part, signs, leading), (word, part, list(leading.items()), signs),
                  (word, part, leading, tuple(signs.items())), (word, part, leading), (word, part, S2, signs))


class Thirds(Case):
    def test_three_gone_on(self):
        self.lets(AT_FIVE, GONE_ON, THIRDS)
        self.assertEqual(THIRDS[0], "thirds")
        self.bans(AT_FIVE, wish_of(AT_FIVE), THIRDS)
        word, part, leading, rows = THIRDS
        # Each row from another one of the three on, and led the other way with rows the other way about.
        self.lets(AT_FIVE, GONE_ON, (word, part, leading, {place: rows[place][1:] + rows[place][:1] for place in rows}))
        back = {place: rows[place][::-1] for place in rows}
        self.lets(AT_FIVE, GONE_ON, (word, part, {turn: -leading[turn] % 3 for turn in leading}, back))
        self.bans(AT_FIVE, GONE_ON, (word, part, leading, back),
                  (word, part, {turn: -leading[turn] % 3 for turn in leading}, rows))

    def test_changes_make_up_for_it(self):
        word, part, leading, rows = THIRDS
        for coat in ALL[3]:
            wish = wish_with(AT_FIVE, {**FIVE_FOLK, "a": (1, coat)})
            told = exchanged(exchanged(FIVE_FOLK, "a", "b"), "b", "c")
            both = wish_with(AT_FIVE, {**told, "a": (told["a"][0], coat)})
            for asked in (wish, both):
                self.assertIs(bars(AT_FIVE, asked, THIRDS), is_bar(AT_FIVE, asked, THIRDS))
        self.lets(AT_FIVE, wish_with(AT_FIVE, {**FIVE_FOLK, "a": (1, THIRD)}), THIRDS)
        self.bans(AT_FIVE, wish_with(AT_FIVE, {**FIVE_FOLK, "a": (1, THIRD), "b": (2, (2, 0, 1))}), THIRDS)
        # By no change in the group anything comes, so whatever is told of that is so.
        self.lets(AT_FIVE, wish_with(AT_FIVE, {**FIVE_FOLK, "a": (1, SWAP)}), THIRDS)
        self.bans(AT_FIVE, wish_with(AT_FIVE, without(without(exchanged(FIVE_FOLK, "a", "b"), "c"), "d")), THIRDS)
        self.bans(AT_FIVE, wish_with(AT_FIVE, without(told, "c")), THIRDS)
        self.bans(AT_FIVE, wish_with(AT_FIVE, {}), THIRDS)
        # By an exchange of two pairings come to where they are by none of the three numbers.
        self.lets(AT_FIVE, wish_with(AT_FIVE, without(exchanged(FIVE_FOLK, "a", "b"), "c")), THIRDS)

    def test_rows_that_do_not_go_with_one_way(self):
        word, part, leading, rows = THIRDS
        for place in part:
            row = rows[place]
            for other in permutations(row):
                if other != row:
                    self.bans(AT_FIVE, GONE_ON, (word, part, leading, another(rows, place, other)))

    def test_no_leading(self):
        word, part, leading, rows = THIRDS
        for one in thirds(A3):
            self.assertIs(bars(AT_FIVE, GONE_ON, (word, part, one, rows)), one == leading)
        for one in (leadings(A3)[0], {PLAIN: 0}, {turn: 0 for turn in S3}, {}, A3, list(A3),
                    {turn: leading.get(turn, 0) for turn in S3}, without(leading, THIRD), without(leading, PLAIN),
                    *[another(leading, turn, worth) for turn in A3
                      for worth in (3, -1, 4, True, False, None, "1", ())]):
            self.bans(AT_FIVE, GONE_ON, (word, part, one, rows))

    def test_no_rows(self):
        word, part, leading, rows = THIRDS
        (one, two, three) = rows[0]
        for told in ((one, one, one), (one, two), (one, two, three, one), (one, two, two), [one, two, three],
                     (one[::-1], two, three), (one[0], two, three), ((one[0][::-1], one[1]), two, three),
                     (((0, 1), (2, 3)), two, three), (one, two, ((1, 2),)), (one, two, None), (one, two, ()),
                     (one, two, (three[0], three[0])), (one, two, (three[0], (3, 5))), (list(one), two, three),
                     ((list(one[0]), one[1]), two, three), None, 0, "", (), {}, {0: one, 1: two, 2: three}):
            self.bans(AT_FIVE, GONE_ON, (word, part, leading, another(rows, 0, told)))
        for told in (without(rows, 0), without(rows, 4), another(rows, 5, rows[4]), {}, list(rows.values()),
                     another(without(rows, 1), True, rows[1]), another(without(rows, 0), False, rows[0]),
                     another(without(rows, 0), 5, rows[0]), another(rows, "0", rows[0])):
            self.bans(AT_FIVE, GONE_ON, (word, part, leading, told))

    def test_a_part_of_another_kind_and_one_clause_broken(self):
        word, part, leading, rows = THIRDS
        self.bans(AT_FIVE, GONE_ON, THIRDS[:3], (*THIRDS, 0), list(THIRDS), ("seven", part, leading, rows),
                  ("sign", part, leading, rows), (word, (4, 5), leading, rows), (word, (0, 1, 2, 3), leading, rows),
                  (word, part[::-1], leading, rows), (word, list(part), leading, rows), (word, part, rows, leading),
                  (word, (0, True, 2, 3, 4), leading, rows), (word, part, (), rows), (word, part, leading, ()))
        # With one way more it is no five, though all that goes with its ways goes with these.
        web = Web(6, [*FIVE.ways(), (0, 1, PLAIN)])
        standing = Standing(web, FIVE_FOLK)
        self.assertEqual(kind(web, part), "web")
        self.bans(standing, wish_with(standing, GONE_ON.told()), THIRDS)


class Seven(Case):
    def test_an_order_that_does_not_come_about(self):
        self.lets(AT_SEVEN, MIXED, ROWS)
        self.assertEqual(ROWS[0], "seven")
        self.bans(AT_SEVEN, wish_of(AT_SEVEN), ROWS)
        known = {tuple(pair and pair[0] for pair in row) for row in come(AT_SEVEN)}
        for row in list(permutations("abcdef"))[::7]:
            wish = wish_with(AT_SEVEN, {name: (place + 1, None) for place, name in enumerate(row)})
            self.assertIs(bars(AT_SEVEN, wish, ROWS), (None, *row) not in known)

    def test_some_told_alone(self):
        pick = Random(8)
        known = list(come(AT_SEVEN))
        for _ in range(60):
            names = pick.sample("abcdef", pick.randint(2, 5))
            places = pick.sample(range(1, 7), len(names))
            wish = wish_with(AT_SEVEN, {name: (place, None) for name, place in zip(names, places)})
            self.assertIs(bars(AT_SEVEN, wish, ROWS), not any(grants_wish(row, wish) for row in known))

    def test_rows_that_do_not_go_with_one_way(self):
        word, part, rows = ROWS
        for place in part:
            # The same with two places exchanged is another five of pairings.
            others = [one for one in part if one != place]
            for one, other in combinations(others, 2):
                told = tuple(sorted(put_for(put_for(put_for(row, one, 9), other, one), 9, other)
                                    for row in rows[place]))
                self.assertNotEqual(told, rows[place])
                self.bans(AT_SEVEN, MIXED, (word, part, another(rows, place, told)))

    def test_no_rows(self):
        word, part, rows = ROWS
        five = rows[0]
        for told in (five[::-1], five[:4], five + five[:1], (five[0], *five[:4]), list(five),
                     (five[0][::-1], *five[1:]),
                     ((five[0][0][::-1], *five[0][1:]), *five[1:]), (list(five[0]), *five[1:]), (None, *five[1:]),
                     (five[0][:2], *five[1:]), ((*five[0][:2], (1, 7)), *five[1:]), five[0], None, (), 0, {}, "",
                     ((*five[0][:2], (True, 6)), *five[1:]), ((*five[0][:2], five[1][2]), *five[1:]),
                     tuple(sorted(five[:4])) + (((1, 2), (3, 4), (5, 6)),)):
            self.bans(AT_SEVEN, MIXED, (word, part, another(rows, 0, told)))
        for told in (without(rows, 0), without(rows, 6), another(rows, 7, five), {}, list(rows.values()), (),
                     another(without(rows, 1), True, rows[1]), another(without(rows, 0), False, rows[0]),
                     another(without(rows, 6), 7, rows[6]), another(rows, "0", rows[0])):
            self.bans(AT_SEVEN, MIXED, (word, part, told))

    def test_a_part_of_another_kind_and_one_clause_broken(self):
        word, part, rows = ROWS
        self.bans(AT_SEVEN, MIXED, ROWS[:2], (*ROWS, 0), list(ROWS), ("folk", part, rows), (word, rows, part),
                  (word, part[:6], rows), (word, list(part), rows), (word, part[::-1], rows),
                  (word, (False, *part[1:]), rows), ("sign", *ROWS[1:], {}), ("thirds", *ROWS[1:], {}))
        web = Web(7, [*SEVEN.ways(), (0, 3, (0, 1))], size=2)
        standing = Standing(web, SEVEN_FOLK)
        self.assertEqual(kind(web, part), "web")
        self.bans(standing, wish_with(standing, MIXED.told()), ROWS)
        # On a round of seven places such rows are carried along, too, but it is no seven.
        web = Web(7, [(at, (at + 1) % 7, (0, 1)) for at in range(7)], size=2)
        (rows,) = fives_found(web, Nook(web, part, 0))
        standing = Standing(web, SEVEN_FOLK)
        wish = wish_with(standing, exchanged(SEVEN_FOLK, "a", "b"))
        self.lets(standing, wish, ("about", part))
        self.bans(standing, wish, (word, part, rows))


class NothingGrants(Case):
    def test_whatever_is_told_of_it_is_so(self):
        # Who is asked to stand at a part's places isn't of its folk, or one of its folk is asked away.
        web = Web(8, [*FIVE.ways(), (5, 6, PLAIN), (5, 7, PLAIN), (6, 7, PLAIN)])
        folk = {**FIVE_FOLK, "f": (6, PLAIN), "g": (7, PLAIN)}
        standing = Standing(web, folk)
        signs = ("sign", (0, 1, 2, 3, 4), leadings(A3)[0], {0: 1, 1: 1, 2: -1, 3: -1, 4: -1})
        for told in ({"f": (3, None)}, {"a": (6, None)}, {"a": (5, None)}):
            wish = wish_with(standing, told)
            self.lets(standing, wish, THIRDS)
            self.lets(standing, wish, signs)
            self.bans(standing, wish, (*signs[:3], {**signs[3], 0: -1}), (*THIRDS[:2], thirds(A3)[0], THIRDS[3]))
        for told in ({"a": (3, None)}, {"f": (7, None)}, {"e": (6, None)}):
            self.bans(standing, wish_with(standing, told), THIRDS, signs)
        web = Web(8, [*SEVEN.ways(), (3, 7, (0, 1))], size=2)
        standing = Standing(web, {**SEVEN_FOLK, "g": (7, (0, 1))})
        for told in ({"g": (2, None)}, {"a": (7, None)}):
            self.lets(standing, wish_with(standing, told), ROWS)
        self.bans(standing, wish_with(standing, {"g": (7, None), "a": (2, None)}), ROWS)

    def test_but_marks_must_be_right_all_the_same(self):
        # Each of these is carried along all ways, but is none.
        web = Web(8, [*FIVE.ways(), (5, 6, PLAIN), (6, 7, PLAIN)])
        standing = Standing(web, {**FIVE_FOLK, "f": (6, PLAIN), "g": (7, PLAIN)})
        wish = wish_with(standing, {"f": (3, None)})
        part, sides = (0, 1, 2, 3, 4), {0: 1, 1: 1, 2: -1, 3: -1, 4: -1}
        self.lets(standing, wish, ("sign", part, leadings(A3)[0], sides))
        self.lets(standing, wish, THIRDS)
        for worth in (0, 2, -3, 10 ** 30):
            self.bans(standing, wish, ("sign", part, leadings(A3)[0], {place: worth * sides[place] for place in part}))
        for row in (((9, 9), (9, 9)), (), ((0, 0), (0, 0)), ((8, 9), (8, 9), (8, 9))):
            for many in (0, 1, 3):
                self.bans(standing, wish, (*THIRDS[:3], {place: (row,) * many for place in part}))
        web = Web(8, [*SEVEN.ways(), (3, 7, (0, 1))], size=2)
        standing = Standing(web, {**SEVEN_FOLK, "g": (7, (0, 1))})
        wish = wish_with(standing, {"g": (2, None)})
        self.lets(standing, wish, ROWS)
        for row in (((9, 9), (9, 9), (9, 9)), (), ((8, 9), (8, 9)), ((0, 9), (1, 9), (2, 9))):
            for many in (0, 1, 4, 5, 6):
                self.bans(standing, wish, (*ROWS[:2], {place: (row,) * many for place in ROWS[1]}))
        # All fifteen pairings.
        self.bans(standing, wish, (*ROWS[:2], {
            place: tuple(pairings_of([one for one in ROWS[1] if one != place])) for place in ROWS[1]}))


class OfAnything(Case):
    BARS = [(AT_TWO, Wish(TWO, 6, {}), ("apart",)), (AT_TWO, wish_with(AT_TWO, {"f": (7, None)}), ("still", "f")),
            (AT_TWO, wish_with(AT_TWO, {"a": (3, None)}), ("folk", (2, 3, 4), "a")),
            (AT_TWO, wish_with(AT_TWO, {"a": (3, None)}), ("about", (2, 3, 4))),
            (AT_FIVE, Lot.DRESSED, ("lot", (0, 1, 2, 3, 4), "a", A3)), (AT_FOUR, EXCHANGED, SIGNS),
            (AT_FIVE, GONE_ON, THIRDS), (AT_SEVEN, MIXED, ROWS)]

    def test_it_is_true_or_false(self):
        for standing, wish, thing in self.BARS:
            self.lets(standing, wish, thing)
            self.bans(standing, wish, *ANYTHING, *NO_GROUPS, (thing,), {thing[0]: thing[1:]}, thing[1:])

    def test_anything_at_any_place(self):
        for standing, wish, thing in self.BARS:
            for told in as_anything(2)(thing):
                self.assertIs(bars(standing, wish, told), is_the_same(told, thing))

    def test_each_word_with_anything_behind(self):
        for word in ("apart", "still", "folk", "about", "lot", "sign", "thirds", "seven", "bar", ""):
            for thing in ANYTHING:
                for many in range(1, 4):
                    self.assertIs(bars(AT_TWO, wish_of(AT_TWO), (word, *[thing] * many)), False)

    def test_in_which_order_keys_were_put_in_means_nothing(self):
        for standing, wish, thing in self.BARS:
            for order in (reversed, lambda rows: sorted(rows, key=str)[1:] + sorted(rows, key=str)[:1]):
                told = tuple(dict(order(list(one.items()))) if isinstance(one, dict) else one for one in thing)
                self.lets(standing, wish, told)

    def test_lists_for_tuples_and_truths_for_numbers(self):
        for standing, wish, thing in self.BARS:
            for told in [*as_lists(thing), *as_truths(thing)]:
                self.assertIs(bars(standing, wish, told), False)


class Sound(unittest.TestCase):
    def test_as_the_words_say(self):
        pick = Random(10)
        right = {}
        for _ in range(250):
            many = pick.choice((3, 4, 4))
            size = pick.choice((2, 2, 3)) if many == 4 else 3
            pairs = list(combinations(range(many), 2))
            web = web_with(many, pick.sample(pairs, pick.randint(2, len(pairs))), size, pick)
            if pick.random() < 0.3:
                # Of a part whose rounds of three turn a coat, which have signs.
                web = pick.choice([FOUR, Web(4, [(one, other, (1, 0)) for one, other in pairs[-6:]], size=2)])
            standing = standing_of(web, pick.randrange(many), pick.random())
            wish = pick.choice([some_wish(web, standing.names(), pick), near_miss(standing, pick)])
            for thing in things_by_form(standing, pick):
                told = bars(standing, wish, thing)
                self.assertIs(told, is_bar(standing, wish, thing), (web.ways(), standing.folk(), wish.told(), thing))
                if told:
                    right[thing[0]] = right.get(thing[0], 0) + 1
        self.assertEqual(set(right), {"apart", "still", "folk", "about", "lot", "sign"})

    def test_never_where_a_walk_leads(self):
        pick = Random(11)
        for _ in range(60):
            web = web_with(4, pick.sample(list(combinations(range(4), 2)), pick.randint(3, 6)), 2, pick)
            standing = standing_of(web, pick.randrange(4), pick.random())
            rows = list(come(standing))
            for _ in range(4):
                wish = near_miss(standing, pick)
                if any(grants_wish(row, wish) for row in rows):
                    for thing in things_by_form(standing, pick):
                        self.assertIs(bars(standing, wish, thing), False)


def things_by_form(standing, pick):
    """Things that are bars by form, of all kinds but those of fives and sevens; some of many."""
    size = standing.web().size()
    groups = GROUPS[size]
    told = [("apart",), *[("still", name) for name in standing.names()]]
    for part, _ in parts_there(standing):
        told.append(("about", part))
        for name in standing.names():
            told += [("folk", part, name), *[("lot", part, name, group) for group in groups]]
        for group in groups:
            for leading in leadings(group):
                for row in range(2 ** (len(part) - 1)):
                    signs = {place: 1 if row >> at & 1 else -1 for at, place in enumerate(part)}
                    told.append(("sign", part, leading, signs))
    return [thing for thing in told if thing[0] in ("apart", "still", "folk", "about") or pick.random() < 0.4]


class Refused(unittest.TestCase):
    def test_ahead_of_all_else(self):
        other = Web(8, TWO.ways()[1:])
        for thing in (("apart",), None, [], 1):
            refused(self, Unlike, bars, AT_TWO, Wish(other, 6, {"x": (1, None)}), thing)
            refused(self, Unlike, bars, AT_TWO, Wish(other, 0, {}), thing)
            raised = refused(self, NoWish, bars, AT_TWO, Wish(TWO, 6, {"x": (1, None), "g": (2, None), "h": (3, None)}),
                             thing)
            self.assertEqual(raised.name, "h")
        self.assertIs(bars(thing=("apart",), wish=Wish(TWO, 6, {}), standing=AT_TWO), True)

    def test_nothing_is_changed(self):
        thing = (*SIGNS[:2], dict(SIGNS[2]), dict(SIGNS[3]))
        self.assertIs(bars(AT_FOUR, EXCHANGED, thing), True)
        self.assertEqual(thing, SIGNS)
        self.assertEqual((FOUR_FOLK, EXCHANGED), (AT_FOUR.folk(), wish_with(AT_FOUR, exchanged(FOUR_FOLK, "a", "b"))))


if __name__ == "__main__":
    unittest.main()
