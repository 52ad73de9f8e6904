"""[13.1] to [13.3] and the interface below them; [0.2] (e)."""

import unittest
from random import Random

from tests.barring import PLAIN, SWAP, THIRD, exchanged, folk_of
from tests.comes import come, row_of, web_with
from tests.nets import ANYTHING, NO_PLACES, pairs_of, some_fold, some_walk, standing_of
from tests.test_chains import small_webs
from tests.test_standings import NO_NAMES
from tests.things import ALL, NO_LISTS, NO_TURNS, inverse, plain_of, refused
from turncoats.bars import bar
from turncoats.errors import (
    BadFolk, BadWeb, NoFold, NoLog, NoName, NoPlace, NoStep, NoTurn, NoWay, NoWish, TooMany,
)
from turncoats.judge import bars
from turncoats.standings import Standing
from turncoats.walks import folded, led, walked
from turncoats.webs import Web
from turncoats.wishes import wish_of
from turncoats.yard import Yard, led_by

WEB = Web(4, [(0, 1, THIRD), (1, 2, SWAP), (2, 0, PLAIN), (2, 3, PLAIN)])
FOLK = {"dora": (3, PLAIN), "anna": (1, SWAP), "bert": (2, THIRD)}
OTHERS = {"anna": (1, SWAP), "bert": (2, THIRD), "cora": (3, PLAIN)}
FOLD = ((0, (1, 2, 0)), (0, (("line", 0, 1), ("line", 0, 1))))
NO_NAMES_AT_ALL = [*NO_NAMES, *[thing for thing in ANYTHING if thing not in ("line", "anna")]]


def told_by(yard):
    """All that a yard tells, but for news."""
    return yard.web(), yard.names(), [yard.standing(name) for name in yard.names()], yard.log(), yard.kinds()


def filled(web=WEB, folk=FOLK, names=("one", "two")):
    yard = Yard(web)
    for name in names:
        yard.keep(name, folk)
    return yard


class Case(unittest.TestCase):
    def refuses(self, yard, error, what, *args):
        """That a deed is refused, and all is as it was; what is raised."""
        before = told_by(yard)
        raised = refused(self, error, getattr(yard, what), *args)
        self.assertEqual(told_by(yard), before)
        return raised


class Made(Case):
    def test_an_empty_one(self):
        yard = Yard(web=WEB)
        self.assertEqual(told_by(yard), (WEB, [], [], [], []))
        self.assertEqual(yard.news(), ([], []))


class Keep(Case):
    def test_kept(self):
        yard = Yard(WEB)
        self.assertIs(yard.keep("two", FOLK), None)
        self.assertIs(yard.keep(folk=OTHERS, name="one"), None)
        self.assertEqual(yard.names(), ["one", "two"])
        self.assertEqual(yard.standing("two"), Standing(WEB, FOLK))
        self.assertEqual(yard.standing(name="one"), Standing(WEB, OTHERS))
        yard.keep("two", OTHERS)
        self.assertEqual((yard.names(), yard.standing("two")), (["one", "two"], Standing(WEB, OTHERS)))

    def test_what_was_handed_in_may_be_changed_behind(self):
        yard = Yard(WEB)
        folk = dict(FOLK)
        yard.keep("one", folk)
        self.assertEqual(list(folk.items()), list(FOLK.items()))
        folk.clear()
        self.assertEqual(yard.standing("one").folk(), FOLK)
        self.assertEqual(len(yard.log()[0][2]), 3)

    def test_refused(self):
        yard = filled()
        for at, thing in enumerate(NO_NAMES_AT_ALL):
            with self.subTest(at=at):
                self.assertIs(self.refuses(yard, NoName, "keep", thing, FOLK).name, thing)
                self.assertIs(self.refuses(yard, NoName, "keep", thing, None).name, thing)
        for at, thing in enumerate(ANYTHING):
            with self.subTest(at=at):
                self.refuses(yard, BadFolk, "keep", "three", thing)
                self.refuses(yard, BadFolk, "keep", "one", thing)
        self.assertEqual(self.refuses(yard, BadFolk, "keep", "one", {**FOLK, "anna": (0, (0, 1))}).name, "anna")
        self.assertIs(self.refuses(yard, BadFolk, "keep", "one", {"anna": (0, PLAIN)}).name, None)

    def test_a_ninth_one(self):
        yard = filled(names="abcdefgh")
        self.assertEqual(yard.names(), list("abcdefgh"))
        self.assertEqual(self.refuses(yard, TooMany, "keep", "i", FOLK).most, 8)
        # Other refusals come ahead of that.
        self.refuses(yard, BadFolk, "keep", "i", {})
        self.refuses(yard, NoName, "keep", "I", FOLK)
        # A kept name may be kept anew, and another one where one was let go.
        yard.keep("c", OTHERS)
        yard.drop("a")
        yard.keep("i", OTHERS)
        self.assertEqual(yard.names(), list("bcdefghi"))
        self.refuses(yard, TooMany, "keep", "a", FOLK)


class Drop(Case):
    def test_let_go(self):
        yard = filled()
        self.assertIs(yard.drop("one"), None)
        self.assertEqual(yard.names(), ["two"])
        self.assertEqual(self.refuses(yard, NoName, "drop", "one").name, "one")
        yard.drop(name="two")
        self.assertEqual(yard.names(), [])

    def test_refused(self):
        yard = filled()
        for at, thing in enumerate([*NO_NAMES_AT_ALL, "three", "on", "anna"]):
            with self.subTest(at=at):
                self.assertIs(self.refuses(yard, NoName, "drop", thing).name, thing)
                self.assertIs(refused(self, NoName, yard.standing, thing).name, thing)


class Step(Case):
    def test_who_stands_there_steps(self):
        yard = filled()
        self.assertIs(yard.step("one", 2), None)
        self.assertEqual(yard.standing("one"), Standing(WEB, FOLK).step(2))
        self.assertEqual(yard.standing("two"), Standing(WEB, FOLK))
        yard.step(place=3, name="one")
        self.assertEqual(yard.standing("one"), walked(Standing(WEB, FOLK), [2, 3]))

    def test_refused(self):
        yard = filled()
        for at, thing in enumerate([*NO_NAMES_AT_ALL, "three"]):
            with self.subTest(at=at):
                self.assertIs(self.refuses(yard, NoName, "step", thing, 1).name, thing)
                self.assertIs(self.refuses(yard, NoName, "step", thing, 9).name, thing)
        for at, thing in enumerate([*NO_PLACES, 4]):
            with self.subTest(at=at):
                self.assertIs(self.refuses(yard, NoPlace, "step", "one", thing).place, thing)
        for place in (0, 3):
            self.assertEqual(self.refuses(yard, NoStep, "step", "one", place).at, 0)


class Lead(Case):
    def test_led(self):
        yard = filled()
        self.assertIs(yard.lead("one", FOLD), None)
        self.assertEqual(yard.standing("one"), led(Standing(WEB, FOLK), FOLD))
        self.assertEqual(yard.standing("two"), Standing(WEB, FOLK))
        yard.lead(fold=((0, (2, 3)),), name="two")
        self.assertEqual(yard.standing("two").empty(), 3)

    def test_refused(self):
        yard = filled()
        for at, thing in enumerate([*NO_NAMES_AT_ALL, "three"]):
            with self.subTest(at=at):
                self.assertIs(self.refuses(yard, NoName, "lead", thing, FOLD).name, thing)
                self.assertIs(self.refuses(yard, NoName, "lead", thing, None).name, thing)
        for at, thing in enumerate(ANYTHING):
            # One of them is a fold that does nothing.
            if thing != ((0, ()),):
                with self.subTest(at=at):
                    self.assertEqual(self.refuses(yard, NoFold, "lead", "one", thing).line, 0)
        for fold, line in [(list(FOLD), 0), (FOLD[:1] + ((0, (3,)),), 1), (((1, (0,)),), 0), (FOLD + ((1, (2,)),), 2)]:
            self.assertEqual(self.refuses(yard, NoFold, "lead", "one", fold).line, line)


class Lay(Case):
    def test_a_way_more(self):
        yard = filled()
        stood = [yard.standing(name).folk() for name in yard.names()]
        self.assertIs(yard.lay(3, 1, THIRD), None)
        self.assertEqual(yard.web(), Web(4, [*WEB.ways(), (3, 1, THIRD)]))
        yard.lay(turn=SWAP, other=3, one=0)
        self.assertEqual(yard.web(), Web(4, [*WEB.ways(), (3, 1, THIRD), (0, 3, SWAP)]))
        # Nobody is moved.
        self.assertEqual([yard.standing(name).folk() for name in yard.names()], stood)
        self.assertEqual([yard.standing(name).web() for name in yard.names()], [yard.web()] * 2)
        yard.step("one", 3)
        self.assertEqual(yard.standing("one").coat("dora"), inverse(SWAP))

    def test_refused(self):
        yard = filled()
        for one, other, turn in [(0, 1, PLAIN), (1, 0, PLAIN), (1, 2, SWAP), (0, 0, PLAIN), (0, 4, PLAIN),
                                 (-1, 3, PLAIN), (1, 3, (0, 1)), (1, 3, (0, 1, 2, 3)), (1, 3, [0, 1, 2]),
                                 (True, 3, PLAIN)]:
            self.refuses(yard, BadWeb, "lay", one, other, turn)
        for at, thing in enumerate([*NO_PLACES, 4]):
            with self.subTest(at=at):
                self.refuses(yard, BadWeb, "lay", thing, 3, PLAIN)
                self.refuses(yard, BadWeb, "lay", 3, thing, PLAIN)
        for at, thing in enumerate([*NO_TURNS, *[one for one in ANYTHING if one != (0, 1, 2)]]):
            with self.subTest(at=at):
                self.refuses(yard, BadWeb, "lay", 1, 3, thing)

    def test_a_seventeenth(self):
        pairs = [(one, other) for one in range(7) for other in range(one)]
        yard = Yard(Web(7, []))
        for one, other in pairs[:16]:
            yard.lay(one, other, PLAIN)
        self.refuses(yard, BadWeb, "lay", *pairs[16], PLAIN)
        yard.shut(*pairs[3])
        yard.lay(*pairs[16], PLAIN)
        self.refuses(yard, BadWeb, "lay", *pairs[3], PLAIN)
        self.assertEqual(len(yard.web().ways()), 16)

    def test_of_other_sizes(self):
        yard = Yard(Web(3, [], size=5))
        yard.lay(0, 2, (4, 3, 2, 1, 0))
        self.refuses(yard, BadWeb, "lay", 0, 1, PLAIN)
        self.assertEqual(yard.web(), Web(3, [(0, 2, (4, 3, 2, 1, 0))], size=5))


class Shut(Case):
    def test_a_way_is_gone(self):
        yard = filled()
        yard.step("one", 2)
        stood = [yard.standing(name).folk() for name in yard.names()]
        self.assertIs(yard.shut(2, 1), None)
        self.assertEqual(yard.web(), Web(4, [way for way in WEB.ways() if way[:2] != (1, 2)]))
        yard.shut(other=3, one=2)
        yard.shut(0, 1)
        yard.shut(0, 2)
        self.assertEqual(yard.web(), Web(4, []))
        self.assertEqual([yard.standing(name).folk() for name in yard.names()], stood)
        self.assertEqual([yard.standing(name).web() for name in yard.names()], [Web(4, [])] * 2)
        self.refuses(yard, NoStep, "step", "one", 1)

    def test_refused(self):
        yard = filled()
        for at, thing in enumerate([*NO_PLACES, 4]):
            with self.subTest(at=at):
                self.assertIs(self.refuses(yard, NoPlace, "shut", thing, 3).place, thing)
                self.assertIs(self.refuses(yard, NoPlace, "shut", thing, 9).place, thing)
                self.assertIs(self.refuses(yard, NoPlace, "shut", 3, thing).place, thing)
        for one, other in [(0, 3), (3, 0), (1, 3), (2, 2), (0, 0)]:
            raised = self.refuses(yard, NoWay, "shut", one, other)
            self.assertEqual((raised.one, raised.other), (one, other))


class Dress(Case):
    def test_another_coat(self):
        yard = filled()
        self.assertIs(yard.dress("one", "bert", SWAP), None)
        self.assertEqual(yard.standing("one"), Standing(WEB, {**FOLK, "bert": (2, SWAP)}))
        self.assertEqual(yard.standing("two"), Standing(WEB, FOLK))
        yard.dress(coat=PLAIN, who="anna", name="two")
        self.assertEqual(yard.standing("two"), Standing(WEB, {**FOLK, "anna": (1, PLAIN)}))

    def test_refused(self):
        yard = filled()
        for at, thing in enumerate([*NO_NAMES_AT_ALL, "three"]):
            with self.subTest(at=at):
                self.assertIs(self.refuses(yard, NoName, "dress", thing, "anna", PLAIN).name, thing)
                self.assertIs(self.refuses(yard, NoName, "dress", thing, "cora", None).name, thing)
                self.assertIs(self.refuses(yard, NoName, "dress", "one", thing, PLAIN).name, thing)
                self.assertIs(self.refuses(yard, NoName, "dress", "one", thing, None).name, thing)
        for at, thing in enumerate([*NO_TURNS, (0, 1), (1, 0, 2, 3), [0, 1, 2]]):
            with self.subTest(at=at):
                self.refuses(yard, NoTurn, "dress", "one", "anna", thing)


class Told(Case):
    def test_what_was_told_before_stays_as_it_was(self):
        yard = filled()
        standing, web, names, log, kinds = (yard.standing("one"), yard.web(), yard.names(), yard.log(), yard.kinds())
        news = yard.news()
        yard.step("one", 1)
        yard.shut(0, 1)
        yard.lay(0, 3, SWAP)
        yard.dress("two", "anna", PLAIN)
        yard.drop("two")
        self.assertEqual((standing, standing.web(), web), (Standing(WEB, FOLK), WEB, WEB))
        self.assertEqual((names, kinds, len(log)), (["one", "two"], [("one", "two")], 2))
        self.assertEqual(news, ([("one", "two")], []))

    def test_lists_are_the_askers_own(self):
        yard = filled()
        before = told_by(yard)
        for told in (yard.names(), yard.log(), yard.kinds(), yard.standing("one").folk(), yard.web().ways()):
            told.clear()
        for told in yard.news():
            told.clear()
        self.assertEqual(told_by(yard), before)
        self.assertEqual(yard.news(), ([], []))


def kinds_by(yard):
    """The kinds, by going through all standings that come."""
    found = []
    left = yard.names()
    while left:
        rows = come(yard.standing(left[0]))
        alike = [name for name in left if row_of(yard.standing(name)) in rows]
        found.append(tuple(alike))
        left = [name for name in left if name not in alike]
    return sorted(found)


def pairs_by(kinds):
    return sorted((one, other) for row in kinds for one in row for other in row if one < other)


def some_deed(yard, pick):
    """A deed that may be done or refused, its word first."""
    web = yard.web()
    name = pick.choice([*yard.names(), *yard.names(), *"pqr"])
    place = pick.randrange(web.many())
    turn = pick.choice(ALL[web.size()])
    word = pick.choice(("keep", "keep", "keep", "drop", "step", "step", "lead", "lay", "shut", "dress"))
    if word == "keep":
        kept = [yard.standing(one) for one in yard.names()]
        if kept and pick.random() < 0.7:
            one = pick.choice(kept)
            folk = walked(one, some_walk(web, one.empty(), pick.randrange(30), pick.random())).folk()
        else:
            folk = standing_of(web, place, pick.randrange(3)).folk()
        if pick.random() < 0.4 and len(folk) > 1:
            folk = exchanged(folk, *pick.sample(sorted(folk), 2))
        return word, pick.choice("pqrstuvwxyz"), folk
    if word == "drop":
        return word, name
    if word == "step":
        return word, name, place
    if word == "lead":
        return word, name, pick.choice([some_fold(web, place, pick.random(), 20),
                                        folded(place, some_walk(web, place, 20, pick.random()))])
    if word == "lay":
        return word, place, pick.randrange(web.many()), turn
    if word == "shut":
        way = pick.choice([*web.ways(), (place, 0, None)])
        return word, *pick.choice([way[:2], way[1::-1]])
    names = yard.standing(name).names() if name in yard.names() else ["a"]
    return word, name, pick.choice(names), turn


def as_logged(deed):
    if deed[0] == "keep":
        return (*deed[:2], tuple((name, *deed[2][name]) for name in sorted(deed[2])))
    return deed


class Kinds(Case):
    def through(self, web, pick, deeds):
        """That behind each of some deeds all is told as going through all standings tells; the yard."""
        yard = Yard(web)
        log, pairs = [], []
        for _ in range(deeds):
            deed = some_deed(yard, pick)
            before = (yard.web(), yard.names(), [yard.standing(name) for name in yard.names()])
            try:
                self.assertIs(getattr(yard, deed[0])(*deed[1:]), None)
                log.append(as_logged(deed))
            except (NoName, NoStep, NoFold, BadWeb, NoWay, TooMany, NoPlace):
                after = (yard.web(), yard.names(), [yard.standing(name) for name in yard.names()])
                self.assertEqual(after, before)
            right = kinds_by(yard)
            self.assertEqual(yard.kinds(), right)
            self.assertEqual(yard.log(), log)
            if pick.random() < 0.5:
                now = pairs_by(right)
                self.assertEqual(yard.news(), ([pair for pair in now if pair not in pairs],
                                               [pair for pair in pairs if pair not in now]))
                pairs = now
        return yard

    def test_against_all_standings_behind_each_deed(self):
        pick = Random(70)
        several = 0
        for web in small_webs(pick, 30):
            yard = self.through(web, pick, 30)
            several += any(len(row) > 1 for row in yard.kinds())
            again = led_by(web, yard.log())
            self.assertEqual(told_by(again), told_by(yard))
            self.assertEqual(again.news(), (pairs_by(yard.kinds()), []))
        self.assertGreater(several, 10)

    def test_told_examples(self):
        yard = Yard(WEB)
        self.assertEqual(yard.kinds(), [])
        yard.keep("d", FOLK)
        yard.keep("b", FOLK)
        yard.keep("c", OTHERS)
        yard.keep("a", walked(Standing(WEB, FOLK), [2, 3]).folk())
        self.assertEqual(yard.kinds(), [("a", "b", "d"), ("c",)])
        yard.dress("b", "dora", SWAP)
        self.assertEqual(yard.kinds(), [("a", "d"), ("b",), ("c",)])

    def test_greater_webs(self):
        # Two places that are each joined to all others, and one way turned: all can be had of each other.
        for many, size in ((6, 3), (7, 4), (8, 5)):
            plain = plain_of(size)
            pairs = [(0, 1)] + [(one, other) for one in (0, 1) for other in range(2, many)]
            turn = (1, 0, *range(2, size))
            web = Web(many, [(one, other, turn if (one, other) == (1, 2) else plain) for one, other in pairs],
                      size=size)
            folk = standing_of(web, 3).folk()
            names = sorted(folk)
            yard = Yard(web)
            yard.keep("a", folk)
            yard.keep("b", exchanged(folk, *names[:2]))
            coat = folk[names[0]][1]
            turned = tuple(coat[k] for k in turn)
            yard.keep("c", {**folk, names[0]: (folk[names[0]][0], turned)})
            other = tuple(coat[k] for k in (0, *range(2, size), 1))
            yard.keep("d", {**folk, names[0]: (folk[names[0]][0], other)})
            self.assertEqual(yard.kinds(), [("a", "b", "c"), ("d",)])
            self.assertEqual(yard.news(), ([("a", "b"), ("a", "c"), ("b", "c")], []))
            # Without the way between the two no round is of an odd number: an exchange of two alone doesn't come.
            yard.shut(1, 0)
            self.assertEqual(yard.kinds(), [("a", "c"), ("b",), ("d",)])
            self.assertEqual(yard.news(), ([], [("a", "b"), ("b", "c")]))
            yard.shut(1, 2)
            # Then nobody's coat can be turned.
            self.assertEqual(yard.kinds(), [("a",), ("b",), ("c",), ("d",)])
            self.assertEqual(yard.news(), ([], [("a", "c")]))
            yard.lay(1, 2, (1, *range(2, size), 0))
            yard.lay(0, 1, plain)
            self.assertEqual(yard.kinds()[0][0], "a")
            for one in yard.names():
                for two in yard.names():
                    alike = any(one in row and two in row for row in yard.kinds())
                    self.assertIs(bar(yard.standing(one), wish_of(yard.standing(two))) is None, alike)


class News(Case):
    def test_what_was_joined_and_parted_since(self):
        yard = Yard(WEB)
        yard.keep("b", FOLK)
        self.assertEqual(yard.news(), ([], []))
        yard.keep("a", FOLK)
        yard.keep("c", FOLK)
        self.assertEqual(yard.news(), ([("a", "b"), ("a", "c"), ("b", "c")], []))
        self.assertEqual(yard.news(), ([], []))
        yard.dress("c", "dora", SWAP)
        self.assertEqual(yard.news(), ([], [("a", "c"), ("b", "c")]))
        yard.dress("a", "dora", SWAP)
        self.assertEqual(yard.news(), ([("a", "c")], [("a", "b")]))

    def test_kept_anew_let_go_and_of_other_people(self):
        yard = filled()
        yard.news()
        yard.keep("one", OTHERS)
        self.assertEqual(yard.news(), ([], [("one", "two")]))
        yard.keep("two", OTHERS)
        self.assertEqual(yard.news(), ([("one", "two")], []))
        yard.drop("two")
        self.assertEqual(yard.news(), ([], [("one", "two")]))
        yard.keep("two", OTHERS)
        yard.drop("one")
        self.assertEqual(yard.news(), ([], []))
        yard.keep("one", FOLK)
        yard.keep("two", FOLK)
        self.assertEqual(yard.news(), ([("one", "two")], []))
        # Let go and kept again between two askings, nothing is news.
        yard.drop("one")
        yard.keep("one", FOLK)
        self.assertEqual(yard.news(), ([], []))

    def test_nothing_else_changes_what_is_told_next(self):
        yard = filled()
        for _ in range(2):
            told_by(yard)
            yard.paper("one", "two")
        refused(self, NoName, yard.drop, "three")
        refused(self, BadFolk, yard.keep, "one", {})
        refused(self, BadWeb, yard.lay, 0, 1, PLAIN)
        # Joined and parted again ahead of the asking is no news.
        yard.step("one", 1)
        yard.dress("one", "anna", PLAIN)
        yard.dress("one", "anna", yard.standing("two").step(1).coat("anna"))
        self.assertEqual(yard.news(), ([("one", "two")], []))
        yard.shut(2, 1)
        yard.lay(1, 2, SWAP)
        self.assertEqual(yard.news(), ([], []))

    def test_refusals_leave_it_as_it_was(self):
        pick = Random(71)
        for web in small_webs(pick, 6):
            yard, other = Yard(web), Yard(web)
            for _ in range(25):
                deed = some_deed(yard, pick)
                for one in (yard, other):
                    try:
                        getattr(one, deed[0])(*deed[1:])
                    except ValueError:
                        pass
                for thing in (None, "NONE", 3):
                    for word, args in (("drop", ()), ("step", (0,)), ("lead", (FOLD,)), ("dress", ("a", PLAIN)),
                                       ("keep", (FOLK,)), ("paper", ("p",))):
                        refused(self, NoName, getattr(yard, word), thing, *args)
                self.assertEqual(yard.news(), other.news())


class Paper(Case):
    def test_of_each_two(self):
        pick = Random(72)
        counts = {"fold": 0, "bar": 0}
        for shape, size in (("two rounds at a place", 2), ("seven", 3), ("five in more", 4), ("all of four", 3),
                            ("cube", 2), ("rounds apart", 3)):
            many, pairs = pairs_of(shape)
            web = web_with(many, pairs, size, pick)
            yard = Yard(web)
            standing = standing_of(web)
            for name in "abcd":
                folk = walked(standing, some_walk(web, 0, 40, pick.random())).folk()
                yard.keep(name, folk if pick.random() < 0.6 else exchanged(folk, *pick.sample(sorted(folk), 2)))
            for one in yard.names():
                for other in yard.names():
                    word, thing = yard.paper(one, other)
                    wish = wish_of(yard.standing(other))
                    counts[word] += 1
                    if word == "fold":
                        self.assertEqual(led(yard.standing(one), thing), yard.standing(other))
                    else:
                        self.assertEqual(word, "bar")
                        self.assertIs(bars(yard.standing(one), wish, thing), True)
                    alike = any(one in row and other in row for row in yard.kinds())
                    self.assertIs(word == "fold", alike)
        self.assertGreater(min(counts.values()), 20)

    def test_led_by_it_one_becomes_the_other(self):
        yard = Yard(WEB)
        yard.keep("one", FOLK)
        yard.keep("two", walked(Standing(WEB, FOLK), [2, 3, 2, 1, 0, 2, 1]).folk())
        yard.lead("one", yard.paper(other="two", name="one")[1])
        self.assertEqual(yard.standing("one"), yard.standing("two"))

    def test_refused(self):
        yard = filled()
        yard.keep("other", OTHERS)
        for at, thing in enumerate([*NO_NAMES_AT_ALL, "three"]):
            with self.subTest(at=at):
                self.assertIs(self.refuses(yard, NoName, "paper", thing, "other").name, thing)
                self.assertIs(self.refuses(yard, NoName, "paper", "one", thing).name, thing)
                self.assertIs(self.refuses(yard, NoName, "paper", thing, "nobody").name, thing)
        self.assertEqual(self.refuses(yard, NoWish, "paper", "one", "other").name, "cora")
        self.assertEqual(self.refuses(yard, NoWish, "paper", "other", "one").name, "dora")


class Log(Case):
    LOG = [("keep", "one", (("anna", 1, SWAP), ("bert", 2, THIRD), ("dora", 3, PLAIN))),
           ("keep", "two", (("anna", 1, SWAP), ("bert", 2, THIRD), ("cora", 3, PLAIN))), ("step", "one", 2),
           ("lead", "two", FOLD), ("lay", 3, 1, THIRD), ("shut", 1, 0), ("dress", "one", "dora", SWAP),
           ("keep", "two", (("anna", 1, SWAP), ("bert", 2, THIRD), ("dora", 3, PLAIN))), ("drop", "two")]

    def test_row_by_row_as_handed_in(self):
        yard = Yard(WEB)
        yard.keep("one", FOLK)
        yard.keep("two", OTHERS)
        yard.step("one", 2)
        yard.lead("two", FOLD)
        yard.lay(3, 1, THIRD)
        yard.shut(1, 0)
        yard.dress("one", "dora", SWAP)
        yard.keep("two", FOLK)
        yard.drop("two")
        self.assertEqual(yard.log(), self.LOG)
        self.assertTrue(all(type(row) is tuple for row in yard.log()))
        self.assertIs(type(yard.log()[0][2]), tuple)

    def test_led_by_it(self):
        for many in range(len(self.LOG) + 1):
            for log in (self.LOG[:many], tuple(self.LOG[:many])):
                yard = led_by(WEB, log)
                self.assertIs(type(yard), Yard)
                self.assertEqual(yard.log(), self.LOG[:many])
        yard = led_by(log=self.LOG, web=WEB)
        self.assertEqual(yard.names(), ["one"])
        self.assertEqual(yard.standing("one").folk(), {**Standing(WEB, FOLK).step(2).folk(), "dora": (3, SWAP)})
        self.assertEqual(yard.web(), Web(4, [*WEB.ways()[1:], (3, 1, THIRD)]))

    def test_the_log_may_be_changed_behind(self):
        log = list(self.LOG)
        yard = led_by(WEB, log)
        self.assertEqual(log, self.LOG)
        log.clear()
        self.assertEqual(yard.log(), self.LOG)
        self.assertEqual(told_by(led_by(WEB, yard.log())), told_by(yard))

    def test_no_list(self):
        for at, thing in enumerate(NO_LISTS):
            with self.subTest(at=at):
                self.assertEqual(refused(self, NoLog, led_by, WEB, thing).at, 0)

    def test_the_first_row_that_is_no_deed(self):
        keep = self.LOG[0]
        rows = [*ANYTHING, (), ("keep",), ("keep", "a"), (*keep, 0), ("drop",), ("drop", "one", 0), ("step", "one"),
                ("step", "one", 2, 0), ("lead", "one"), ("lead", "one", FOLD, 0), ("lay", 3, 1),
                ("lay", 3, 1, PLAIN, 0), ("shut", 0), ("shut", 0, 1, 2), ("dress", "one", "anna"),
                ("dress", "one", "anna", SWAP, 0),
                ("Step", "one", 2), ("steps", "one", 2), ("", "one", 2), (None, "one", 2), (("step",), "one", 2),
                ["step", "one", 2], [*keep], ("news",), ("kinds",), ("web",), ("log",), ("names",),
                ("paper", "one", "two"), ("standing", "one"), "drop", {"drop": "one"}, (["drop"], "one"), ({}, "one")]
        for at, row in enumerate(rows):
            with self.subTest(at=at):
                self.assertEqual(refused(self, NoLog, led_by, WEB, [row]).at, 0)
                self.assertEqual(refused(self, NoLog, led_by, WEB, (*self.LOG[:4], row, None)).at, 4)

    def test_folk_that_are_not_as_told(self):
        rows = self.LOG[0][2]
        for at, folk in enumerate([
                *ANYTHING, (), FOLK, list(rows), rows[::-1], (rows[1], rows[0], rows[2]), rows + rows[2:],
                (rows[0], *rows), rows[:2], (list(rows[0]), *rows[1:]), (rows[0][:2], *rows[1:]),
                ((*rows[0], 0), *rows[1:]), (("anna", (1, SWAP)), *rows[1:]), (("ANNA", 1, SWAP), *rows[1:]),
                ((None, 1, SWAP), *rows[1:]), (([], 1, SWAP), *rows[1:]), (({}, 1, SWAP), *rows[1:]),
                (("anna", 9, SWAP), *rows[1:]), (("anna", [], SWAP), *rows[1:]), (("anna", 1, (0, 1)), *rows[1:]),
                (("anna", 2, SWAP), *rows[1:]), (None, *rows[1:]), ("ann", *rows[1:]), (0, *rows[1:])]):
            with self.subTest(at=at):
                self.assertEqual(refused(self, NoLog, led_by, WEB, [self.LOG[0], ("keep", "one", folk)]).at, 1)

    def test_the_first_row_that_is_refused(self):
        for row in [("keep", "One", self.LOG[0][2]), ("keep", None, self.LOG[0][2]), ("drop", "three"), ("drop", []),
                    ("step", "three", 2), ("step", "one", 3), ("step", "one", None), ("step", {}, 2),
                    ("lead", "one", FOLD[1:]), ("lead", "one", list(FOLD)), ("lead", "three", FOLD),
                    ("lay", 0, 1, PLAIN), ("lay", 3, 1, (0, 1)),
                    ("lay", None, [], {}), ("shut", 0, 3), ("shut", 9, 0), ("shut", [], 0),
                    ("dress", "one", "cora", SWAP), ("dress", "three", "anna", SWAP), ("dress", "one", "anna", (0, 1)),
                    ("dress", "one", "anna", [0, 1, 2]), ("dress", [], [], [])]:
            with self.subTest(row=row):
                self.assertEqual(refused(self, NoLog, led_by, WEB, [*self.LOG[:2], row, ("drop", "nobody")]).at, 2)
        eight = [("keep", name, self.LOG[0][2]) for name in "abcdefgh"]
        self.assertEqual(led_by(WEB, eight).names(), list("abcdefgh"))
        self.assertEqual(refused(self, NoLog, led_by, WEB, [*eight, ("keep", "i", self.LOG[0][2])]).at, 8)
        self.assertEqual(led_by(WEB, [*eight, ("keep", "a", self.LOG[1][2])]).kinds(), [("a",), tuple("bcdefgh")])

    def test_folk_by_their_names_not_by_places(self):
        yard = Yard(Web(3, [(0, 1, (1, 0)), (0, 2, (0, 1))], size=2))
        yard.keep("x", folk_of([("b", 0, (0, 1)), ("a", 1, (1, 0))]))
        self.assertEqual(yard.log(), [("keep", "x", (("a", 1, (1, 0)), ("b", 0, (0, 1))))])


if __name__ == "__main__":
    unittest.main()
