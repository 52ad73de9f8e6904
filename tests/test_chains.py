"""[11.1] and the interface below it, as far as chains go."""

import unittest
from random import Random

from tests.barring import AT_SEVEN, FOUR, PLAIN, SEVEN, SWAP, THIRD, exchanged
from tests.comes import come, near_miss, standing_by, web_with
from tests.nets import ANYTHING, NO_PLACES, SHAPES, pairs_of, some_walk, standing_of, web_by
from tests.things import ALL, plain_of, refused
from turncoats.chains import Chain
from turncoats.errors import NoPlace, Unlike
from turncoats.foldtexts import fold_text, read_fold
from turncoats.standings import Standing
from turncoats.walks import is_fold, led, length, one_behind_other, turned_back, walked
from turncoats.webs import Web

WEB = Web(5, [(0, 1, THIRD), (1, 2, SWAP), (2, 0, (0, 2, 1)), (2, 3, PLAIN)])


def small_webs(pick, many):
    """Webs of few standings: up to four places, sizes two and three, and five of size two."""
    for _ in range(many):
        places = pick.choice((2, 3, 4, 4, 4, 5))
        pairs = [(one, other) for one in range(places) for other in range(one)]
        size = 2 if places == 5 else pick.choice((2, 3))
        yield web_with(places, pick.sample(pairs, pick.randint(places - 2, min(len(pairs), 7))), size, pick)


def back_there(standing):
    """The rows of all standings that come of one with its empty place."""
    return [row for row in come(standing) if row[standing.empty()] is None]


class Size(unittest.TestCase):
    def test_all_that_walks_there_and_back_do(self):
        pick = Random(40)
        for web in small_webs(pick, 60):
            place = pick.randrange(web.many())
            # Names and coats tell all that is done to a standing.
            self.assertEqual(Chain(web, place).size(), len(back_there(standing_of(web, place))))

    def test_told_examples(self):
        self.assertEqual(Chain(Web(2, [(0, 1, SWAP)]), 1).size(), 1)
        self.assertEqual(Chain(place=4, web=WEB).size(), 1)
        self.assertEqual(Chain(Web(8, [], size=5), 0).size(), 1)
        for many in range(3, 9):
            web = Web(many, [(at, (at + 1) % many, PLAIN) for at in range(many)])
            self.assertEqual(Chain(web, 0).size(), many - 1)
        self.assertEqual(Chain(SEVEN, 3).size(), 120)
        self.assertEqual(Chain(FOUR, 0).size(), 24)

    def test_very_many(self):
        pairs = [(one, other) for one in range(6) for other in range(one)]
        web = Web(6, [(one, other, plain_of(5)) for one, other in pairs], size=5)
        self.assertEqual(Chain(web, 2).size(), 120)
        turned = [(0, 1, (1, 2, 3, 4, 0)), (1, 2, (1, 0, 2, 3, 4))]
        web = Web(6, turned + [way for way in web.ways() if way[:2] not in ((0, 1), (1, 2))], size=5)
        self.assertEqual(Chain(web, 2).size(), 120 * 120 ** 5)

    def test_the_same_from_each_place_joined(self):
        pick = Random(41)
        for shape in SHAPES:
            many, pairs = pairs_of(shape)
            web = web_with(many, pairs, pick.choice((2, 3, 4)), pick)
            for place in range(many):
                least = web.joined(place)[0]
                self.assertEqual(Chain(web, place).size(), Chain(web, least).size())


class Fold(unittest.TestCase):
    def shown(self, chain, one, other, right):
        """That there is a fold, which leads from the one to the other, just where that is right."""
        fold = chain.fold(one, other)
        self.assertIs(fold is not None, right)
        if right:
            self.assertIs(is_fold(one.web(), fold), True)
            self.assertEqual(led(one, fold), other)
        return fold

    def test_just_where_some_walk_leads(self):
        pick = Random(42)
        for web in small_webs(pick, 40):
            place = pick.randrange(web.many())
            standing = standing_of(web, place)
            rows = back_there(standing)
            chain = Chain(web, place)
            for row in pick.sample(rows, min(len(rows), 12)):
                self.shown(chain, standing, standing_by(web, row), True)
                self.shown(chain, standing_by(web, row), standing, True)
            known = {row: True for row in rows}
            for _ in range(12):
                wish = near_miss(standing, pick)
                told = {name: pair for name, pair in wish.told().items() if pair[1] in ALL[web.size()]}
                if wish.empty() == place and len(told) == web.many() - 1:
                    other = Standing(web, told)
                    row = tuple(other.who(at) and (other.who(at), other.coat(other.who(at)))
                                for at in range(web.many()))
                    self.shown(chain, standing, other, row in known)

    def test_on_more_places(self):
        pick = Random(43)
        for shape in SHAPES:
            many, pairs = pairs_of(shape)
            web = web_with(many, pairs, pick.choice((2, 3, 4, 5)), pick)
            place = pick.randrange(many)
            chain = Chain(web, place)
            standing = standing_of(web, place)
            for steps in (0, 1, 20, 200):
                walk = some_walk(web, place, steps, pick.random())
                walk += (([place] + walk)[-2::-1] if pick.random() < 0.2 else [])
                while walk and walk[-1] != place:
                    walk.append(pick.choice(web.beside(walk[-1])))
                fold = self.shown(chain, standing, walked(standing, walk), True)
                self.assertLessEqual(len(fold), 1500)
                self.assertLessEqual(max(len(items) for _, items in fold), 200)
                self.assertEqual(read_fold(fold_text(fold)), fold)

    def test_very_long_ones(self):
        pairs = [(one, other) for one in range(8) for other in (0, 1) if one > other]
        web = web_by(8, pairs, 5)
        standing = standing_of(web, 3)
        behind = walked(standing, some_walk(web, 3, 500))
        while behind.empty() != 3:
            beside = web.beside(behind.empty())
            behind = walked(behind, [3 if 3 in beside else beside[0]])
        fold = self.shown(Chain(web, 3), standing, behind, True)
        self.assertGreater(length(web, fold), 500)

    def test_no_fold(self):
        chain = Chain(SEVEN, 0)
        folk = AT_SEVEN.folk()
        self.shown(chain, AT_SEVEN, AT_SEVEN, True)
        self.shown(chain, AT_SEVEN, Standing(SEVEN, exchanged(folk, "a", "d")), False)
        self.shown(chain, AT_SEVEN, Standing(SEVEN, {**folk, "a": (1, (1, 0))}), False)
        # Where no walk comes all must stay as it is.
        web = Web(5, WEB.ways()[:3])
        chain = Chain(web, 0)
        standing = standing_of(web)
        (one, other) = [name for name in standing.names() if standing.where(name) > 2]
        self.shown(chain, standing, standing, True)
        self.shown(chain, standing, Standing(web, exchanged(standing.folk(), one, other)), False)
        for coat in ((0, 2, 1), (1, 0, 2)):
            told = Standing(web, {**standing.folk(), one: (standing.where(one), coat)})
            self.shown(chain, standing, told, told == standing)

    def test_several_of_one_chain_one_behind_the_other(self):
        pick = Random(44)
        for web in [*small_webs(pick, 10), SEVEN]:
            place = pick.randrange(web.many())
            chain = Chain(web, place)
            here = standing_of(web, place)
            start, fold = here, None
            rows = back_there(here)
            for _ in range(5):
                there = standing_by(web, pick.choice(rows))
                more = chain.fold(here, there)
                fold = more if fold is None else one_behind_other(web, fold, more)
                here = there
                self.assertEqual(led(start, fold), here)
            self.assertEqual(led(here, turned_back(web, fold)), start)
            self.assertEqual(chain.fold(start, here), Chain(web, place).fold(other=here, one=start))
            self.assertEqual(chain.size(), len(rows))

    def test_where_nothing_is_to_do(self):
        for web in (WEB, SEVEN, Web(3, [])):
            standing = standing_of(web)
            fold = Chain(web, 0).fold(standing, standing)
            self.assertEqual((led(standing, fold), length(web, fold)), (standing, 0))


class Refused(unittest.TestCase):
    def test_no_place(self):
        for at, thing in enumerate([*NO_PLACES, 5, 6]):
            with self.subTest(at=at):
                self.assertIs(refused(self, NoPlace, Chain, WEB, thing).place, thing)
        self.assertIn(8, ANYTHING)
        self.assertEqual(refused(self, NoPlace, Chain, Web(8, []), 8).place, 8)

    def test_unlike_on_either_side(self):
        chain = Chain(WEB, 0)
        standing = standing_of(WEB)
        folk = standing.folk()
        names = standing.names()
        other_name = {**{name: folk[name] for name in names[1:]}, "other": folk[names[0]]}
        for other in (Standing(Web(5, WEB.ways()[1:]), folk), Standing(Web(5, []), folk), standing.step(1),
                      Standing(WEB, other_name), standing_of(Web(4, [])), standing_of(SEVEN),
                      Standing(Web(5, [*WEB.ways(), (3, 4, PLAIN)]), folk)):
            refused(self, Unlike, chain.fold, standing, other)
            refused(self, Unlike, chain.fold, other, standing)
        # Both of the same other web, or with the same other empty place.
        for other in (Standing(Web(5, []), folk), standing.step(1)):
            refused(self, Unlike, chain.fold, other, other)
        other = Standing(WEB, other_name)
        self.assertEqual(led(other, chain.fold(other, other)), other)
        self.assertIsNot(chain.fold(standing, standing_of(Web(5, WEB.ways()[::-1]))), None)


if __name__ == "__main__":
    unittest.main()
