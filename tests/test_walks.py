"""[6.1], walks and folds, and their interface."""

import unittest

from tests.nets import (
    ANYTHING, WEBS, beside_of, lines_unfolded, some_fold, some_walk, some_webs, standing_of, turn_of, walked_by, web_of,
)
from tests.things import NO_LISTS, composed, inverse, plain_of, refused
from turncoats.errors import NoFold, NoStep, TooLong, Unlike
from turncoats.standings import Standing
from turncoats.walks import (
    effect, folded, is_fold, led, length, one_behind_other, turned_back, unfolded, walked,
)
from turncoats.webs import Web

PLAIN, THIRD, SWAP = (0, 1, 2), (1, 2, 0), (1, 0, 2)
# A round of three places with a fourth behind 2, and a fifth which nothing joins.
WEB = Web(5, [(0, 1, THIRD), (1, 2, SWAP), (2, 0, (0, 2, 1)), (2, 3, PLAIN)])
FOLK = {"anna": (1, PLAIN), "bert": (2, PLAIN), "cora": (3, PLAIN), "dora": (4, PLAIN)}
STANDING = Standing(WEB, FOLK)
MANY_WEBS = [*WEBS.values(), *some_webs(60)]
ABOUT = ((0, (1, 2, 0)),)

# Lines that aren't so, whatever stands ahead of them.
NO_LINES = [
    *ANYTHING, 0, (0, (), ()), ((), 0), (0, [1, 2]), [0, (1, 2)], (0, 1), (0, 1, 2), ("0", ()), (None, ()), (True, ()),
    (False, ()), (5, ()), (-1, ()), ([0], ()), (0, "12"), (0, {1: 2}), (0, None),
    # Places that aren't beside what is empty then.
    (0, (0,)), (0, (3,)), (0, (4,)), (0, (5,)), (0, (-1,)), (0, (1, 1)), (0, (1, 2, 1, 3)), (4, (0,)), (3, (2, 3, 0)),
    (0, (True,)), (1, (False,)), (0, ("1",)), (0, (None,)), (0, ((1,),)), (0, ([1],)), (0, ({},)), (0, (10 ** 5000,)),
    # Items by lines that are none, or aren't ahead.
    (0, (("line", 9, 1),)), (0, (("line", -1, 1),)), (0, (("line", 10 ** 5000, 1),)), (0, (("line", None, 1),)),
    (0, (("line", "0", 1),)), (0, (("line", 0),)), (0, (("line", 0, 1, 1),)), (0, ("line", 0, 1)), (0, (("line",),)),
    (0, (["line", 0, 1],)), (0, (("lines", 0, 1),)), (0, ((None, 0, 1),)), (0, ((0, 0, 1),)), (0, (("Line", 0, 1),)),
    (0, (("line", False, 1),)), (0, (("line", 0, True),)), (0, (("line", 0, 0),)), (0, (("line", 0, 2),)),
    (0, (("line", 0, -2),)), (0, (("line", 0, None),)), (0, (("line", 0, "1"),)), (0, (("line", [0], 1),)),
    (0, (("line", 0, [1]),)), (0, ((["line"], 0, 1),)), (0, ((), 1)), (0, (1, ("line", 0, 1))),
]


class Walked(unittest.TestCase):
    def test_told_examples(self):
        told = [walked(STANDING, walk) for walk in ([1], [1, 2], [1, 2, 0], [2, 3])]
        self.assertEqual([behind.empty() for behind in told], [1, 2, 0, 3])
        self.assertEqual(told[0].folk(), {**FOLK, "anna": (0, (2, 0, 1))})
        self.assertEqual(told[1].folk(), {**FOLK, "anna": (0, (2, 0, 1)), "bert": (1, SWAP)})
        self.assertEqual(told[2].folk(), {**FOLK, "anna": (2, (2, 1, 0)), "bert": (1, SWAP)})
        self.assertEqual(told[3].folk(), {**FOLK, "bert": (0, (0, 2, 1)), "cora": (2, PLAIN)})

    def test_who_stands_there_steps(self):
        for web in MANY_WEBS:
            for begin in range(web.many()):
                standing = standing_of(web, begin)
                for steps in (0, 1, 2, 7, 30):
                    walk = some_walk(web, begin, steps)
                    folk, empty = walked_by(standing, walk)
                    behind = walked(standing, walk)
                    self.assertIs(type(behind), Standing)
                    self.assertEqual((behind.folk(), behind.empty(), behind.web()), (folk, empty, web))
                    self.assertEqual(walked(standing, tuple(walk)), behind)
                    self.assertEqual(walked(behind, ([begin] + walk)[-2::-1]), standing)

    def test_none_at_all(self):
        self.assertEqual(walked(STANDING, []), STANDING)
        self.assertEqual(walked(walk=(), standing=STANDING), STANDING)

    def test_nothing_is_changed(self):
        walk = [1, 2, 3, 2]
        behind = walked(STANDING, walk)
        self.assertEqual((walk, STANDING), ([1, 2, 3, 2], Standing(WEB, FOLK)))
        walk.clear()
        self.assertEqual(behind, walked(STANDING, (1, 2, 3, 2)))

    def test_no_list(self):
        for at, walk in enumerate(NO_LISTS):
            with self.subTest(at=at):
                self.assertEqual(refused(self, NoStep, walked, STANDING, walk).at, 0)

    def test_the_first_that_is_not_beside(self):
        wrong = [*ANYTHING, 0, 3, 4, 5, 2 ** 70, (1,), [1], "1"]
        for ahead in ([], [1], [1, 2], [2, 3, 2, 1], [1, 2, 0] * 40):
            here = (ahead or [0])[-1]
            for at, thing in enumerate(wrong):
                if type(thing) is int and thing in beside_of(WEB)[here]:
                    continue
                for behind in ([], [None], [1], [thing, thing]):
                    with self.subTest(ahead=len(ahead), at=at):
                        raised = refused(self, NoStep, walked, STANDING, [*ahead, thing, *behind])
                        self.assertEqual(raised.at, len(ahead))
        self.assertEqual(refused(self, NoStep, walked, STANDING, [True, 2]).at, 0)
        self.assertEqual(refused(self, NoStep, walked, STANDING, (1, False)).at, 1)
        self.assertEqual(refused(self, NoStep, walked, STANDING, {1: 2}).at, 0)


class IsFold(unittest.TestCase):
    def test_folds(self):
        for fold in [ABOUT, ((0, ()),), ((4, ()),), ((0, (1, 2)), (2, (3, 2, ("line", 0, -1)))),
                     ((0, (1, 2)), (0, (("line", 0, 1), ("line", 0, -1)))), ((3, ()), (3, (("line", 0, 1),) * 400)),
                     ((0, (1,)), (1, (("line", 0, -1),)), (0, (("line", 1, -1),)), (4, ()))]:
            self.assertIs(is_fold(WEB, fold), True)
        self.assertIs(is_fold(thing=ABOUT, web=WEB), True)
        for web in MANY_WEBS:
            for begin in range(web.many()):
                self.assertIs(is_fold(web, some_fold(web, begin)), True)

    def test_of_anything(self):
        for at, thing in enumerate([thing for thing in ANYTHING if thing != ((0, ()),)]):
            with self.subTest(at=at):
                self.assertIs(is_fold(WEB, thing), False)
        for at, line in enumerate(NO_LINES):
            with self.subTest(line=at):
                self.assertIs(is_fold(WEB, (line,)), False)
                self.assertIs(is_fold(WEB, (*ABOUT, line)), False)
        self.assertIs(is_fold(WEB, list(ABOUT)), False)

    def test_by_the_web(self):
        self.assertIs(is_fold(Web(3, WEB.ways()[:2]), ABOUT), False)
        self.assertIs(is_fold(Web(4, []), ((4, ()),)), False)


class NoFolds(unittest.TestCase):
    """NoFold of the first wrong line, by every def that is handed a fold."""

    def told(self, fold, line):
        self.assertIs(is_fold(WEB, fold), False)
        for what, args, named in [
                (effect, (WEB, fold), {}), (led, (STANDING, fold), {}), (length, (WEB, fold), {}),
                (unfolded, (WEB, fold), {}), (unfolded, (WEB, fold), {"most": 0}), (turned_back, (WEB, fold), {}),
                (one_behind_other, (WEB, fold, ABOUT), {}), (one_behind_other, (WEB, ABOUT, fold), {}),
                (one_behind_other, (WEB, fold, None), {}), (one_behind_other, (WEB, fold, ((3, ()),)), {}),
                (one_behind_other, (WEB, ((3, ()),), fold), {})]:
            self.assertEqual(refused(self, NoFold, what, *args, **named).line, line)

    def test_no_tuple_and_no_line(self):
        for at, thing in enumerate([*[thing for thing in ANYTHING if thing != ((0, ()),)], list(ABOUT), ()]):
            with self.subTest(at=at):
                self.told(thing, 0)

    def test_the_first_wrong_line(self):
        right = [(0, (1, 2)), (1, (2, 0)), (3, ()), (3, (2, 1, ("line", 1, 1), 2))]
        for at, line in enumerate(NO_LINES):
            with self.subTest(at=at):
                self.told((line,), 0)
                self.told((line, line, (0, ())), 0)
                for many in (2, 4):
                    self.told((*right[:many], line), many)
                    self.told((*right[:many], line, None, *right), many)
                    self.told((*right[:many], line, (0, ())), many)

    def test_a_line_by_itself_or_by_ones_behind(self):
        self.told(((0, (("line", 0, 1),)),), 0)
        self.told(((0, (("line", 1, 1),)), (0, ())), 0)
        self.told(((0, (1, 2, 0)), (0, (("line", 1, -1),)), (0, ())), 1)
        self.told(((0, (1, 2, 0)), (0, (("line", 0, 1), ("line", 2, 1))), (0, ())), 1)

    def test_a_line_that_begins_elsewhere(self):
        fold = ((0, (1, 2)), (2, (3,)), (1, ()))
        for items in [(("line", 1, 1),), (("line", 0, -1),), (1, ("line", 0, 1)), (("line", 0, 1), ("line", 0, 1)),
                      (1, ("line", 0, -1)), (("line", 0, 1), ("line", 1, -1)), (("line", 2, 1),), (("line", 2, -1),),
                      (("line", 0, 1), ("line", 1, 1), ("line", 1, 1)), (("line", 0, 1), 1, 0, 3)]:
            with self.subTest(items):
                self.told((*fold, (0, items)), 3)
        for items in [(("line", 0, 1), ("line", 1, 1), ("line", 1, -1), ("line", 0, -1)), (1, ("line", 2, -1), 0),
                      (2, ("line", 0, -1), ("line", 0, 1), 3), (2, ("line", 1, 1), 2)]:
            with self.subTest(items):
                self.assertIs(is_fold(WEB, (*fold, (0, items))), True)

    def test_the_other_is_looked_at_behind_the_one(self):
        wrong = ((0, ()), (0, (4,)))
        self.assertEqual(refused(self, NoFold, one_behind_other, WEB, wrong, None).line, 1)
        self.assertEqual(refused(self, NoFold, one_behind_other, WEB, None, wrong).line, 0)
        self.assertEqual(refused(self, NoFold, one_behind_other, WEB, ((1, ()),), wrong).line, 1)


class Effect(unittest.TestCase):
    def test_told_examples(self):
        self.assertEqual(effect(WEB, ((0, ()),)), (0, 0, [(k, k, PLAIN) for k in (1, 2, 3, 4)]))
        self.assertEqual(effect(WEB, ((0, (1,)),)),
                         (0, 1, [(1, 0, (2, 0, 1)), (2, 2, PLAIN), (3, 3, PLAIN), (4, 4, PLAIN)]))
        self.assertEqual(effect(fold=((0, (2, 3)),), web=WEB),
                         (0, 3, [(1, 1, PLAIN), (2, 0, (0, 2, 1)), (3, 2, PLAIN), (4, 4, PLAIN)]))
        self.assertEqual(effect(WEB, ABOUT), (0, 0, [(1, 2, composed((2, 0, 1), (0, 2, 1))), (2, 1, SWAP),
                                                     (3, 3, PLAIN), (4, 4, PLAIN)]))

    def test_where_each_goes_and_what_is_put_into_their_coats(self):
        for web in MANY_WEBS:
            for begin in range(web.many()):
                for chance in range(3):
                    fold = some_fold(web, begin, chance)
                    start, end, rows = effect(web, fold)
                    self.assertIs(type(effect(web, fold)), tuple)
                    self.assertIs(type(rows), list)
                    self.assertTrue(all(type(row) is tuple and type(row[2]) is tuple for row in rows))
                    self.assertEqual([row[0] for row in rows], [k for k in range(web.many()) if k != begin])
                    standing = standing_of(web, begin, chance)
                    folk, empty = walked_by(standing, lines_unfolded(fold)[-1][1])
                    self.assertEqual((start, end), (begin, empty))
                    for place, to, turn in rows:
                        name = standing.who(place)
                        self.assertEqual(folk[name], (to, composed(standing.coat(name), turn)))

    def test_what_the_last_line_does_alone(self):
        fold = ((0, (1, 2, 3)), (2, (3,)), (2, (("line", 1, 1), 2)))
        self.assertEqual(effect(WEB, fold), effect(WEB, ((2, (3, 2)),)))

    def test_the_list_is_the_askers_own(self):
        effect(WEB, ABOUT)[2].clear()
        self.assertEqual(len(effect(WEB, ABOUT)[2]), 4)


class Led(unittest.TestCase):
    def test_the_standing_behind(self):
        for web in MANY_WEBS:
            for begin in range(web.many()):
                for chance in range(3):
                    standing = standing_of(web, begin, chance)
                    fold = some_fold(web, begin, chance)
                    folk, empty = walked_by(standing, lines_unfolded(fold)[-1][1])
                    behind = led(standing, fold)
                    self.assertIs(type(behind), Standing)
                    self.assertEqual((behind.folk(), behind.empty(), behind.web()), (folk, empty, web))
                    self.assertEqual(standing, standing_of(web, begin, chance))

    def test_by_name(self):
        self.assertEqual(led(fold=ABOUT, standing=STANDING), walked(STANDING, [1, 2, 0]))

    def test_where_it_begins_elsewhere(self):
        self.assertEqual(refused(self, NoFold, led, STANDING, ((1, ()),)).line, 0)
        self.assertEqual(refused(self, NoFold, led, STANDING, ((0, (1,)), (1, ()))).line, 1)
        self.assertEqual(refused(self, NoFold, led, STANDING, ((0, ()), (0, ()), (4, ()))).line, 2)
        self.assertEqual(led(STANDING, ((1, ()), (0, (2,)))), STANDING.step(2))

    def test_a_wrong_line_comes_ahead_of_where_it_begins(self):
        self.assertEqual(refused(self, NoFold, led, STANDING, ((0, (4,)), (1, ()))).line, 0)
        self.assertEqual(refused(self, NoFold, led, STANDING, ((1, ()), (1, (1,)), (1, ()))).line, 1)


def doubled(many, ahead=(0, (1, 2, 0))):
    """A fold of so many lines behind the first, each of which does the one ahead twice."""
    return (ahead, *[(ahead[0], (("line", k, 1), ("line", k, 1))) for k in range(many)])


class Length(unittest.TestCase):
    def test_how_many_steps(self):
        for web in MANY_WEBS:
            for begin in range(web.many()):
                fold = some_fold(web, begin)
                self.assertEqual(length(web, fold), len(lines_unfolded(fold)[-1][1]))
        self.assertEqual([length(WEB, ((0, ()),)), length(WEB, ABOUT), length(fold=doubled(5), web=WEB)], [0, 3, 96])

    def test_undone_ones_are_as_long(self):
        self.assertEqual(length(WEB, (*ABOUT, (0, (("line", 0, 1), ("line", 0, -1), 2)))), 7)

    def test_lines_that_are_not_done_count_for_nothing(self):
        self.assertEqual(length(WEB, (*doubled(100), (0, (1,)))), 1)

    def test_very_long_walks(self):
        self.assertEqual(length(WEB, doubled(60)), 3 * 2 ** 60)
        self.assertGreater(length(WEB, doubled(60)), 10 ** 18)
        self.assertEqual(length(WEB, doubled(2900)), 3 * 2 ** 2900)
        # Behind twelve times about all is as it was: two who go round, in coats of three patches.
        self.assertEqual(effect(WEB, doubled(60)), effect(WEB, (*ABOUT, (0, (("line", 0, 1),) * (2 ** 60 % 12)))))
        self.assertEqual(effect(WEB, (*ABOUT, (0, (("line", 0, 1),) * 12))), effect(WEB, ((0, ()),)))
        self.assertEqual(led(STANDING, (*doubled(60), (0, (("line", 60, 1), ("line", 60, -1))))), STANDING)


class Unfolded(unittest.TestCase):
    def test_the_walk(self):
        for web in MANY_WEBS:
            for begin in range(web.many()):
                for chance in range(3):
                    fold = some_fold(web, begin, chance)
                    walk = unfolded(web, fold, most=10 ** 6)
                    self.assertIs(type(walk), list)
                    self.assertEqual(walk, lines_unfolded(fold)[-1][1])
                    standing = standing_of(web, begin)
                    self.assertEqual(walked(standing, walk), led(standing, fold))

    def test_told_examples(self):
        fold = ((0, (1, 2)), (2, (3, 2, ("line", 0, -1), 2)), (0, (("line", 0, 1), ("line", 1, 1), ("line", 1, -1))))
        self.assertEqual(unfolded(WEB, fold), [1, 2, 3, 2, 1, 0, 2, 0, 1, 2, 3, 2])
        self.assertEqual(unfolded(fold=((3, ()),), web=WEB), [])
        self.assertEqual(unfolded(WEB, ((3, ()), (3, (("line", 0, 1), ("line", 0, -1), 2, 3)))), [2, 3])

    def test_bounds_just_as_many_and_one_fewer(self):
        for web in list(WEBS.values())[::3]:
            fold = some_fold(web, 0, 5)
            many = len(lines_unfolded(fold)[-1][1])
            self.assertEqual(len(unfolded(web, fold, most=many)), many)
            if many:
                self.assertEqual(refused(self, TooLong, unfolded, web, fold, most=many - 1).most, many - 1)
        self.assertEqual(unfolded(WEB, ABOUT, most=3), [1, 2, 0])
        for most in (0, 1, 2):
            self.assertEqual(refused(self, TooLong, unfolded, WEB, ABOUT, most=most).most, most)
        self.assertEqual(unfolded(WEB, ((0, ()),), most=0), [])
        self.assertEqual(len(unfolded(WEB, doubled(12), most=10 ** 30)), 3 * 2 ** 12)

    def test_four_hundred_where_no_bound_is_told(self):
        there, back = (0, (1, 0)), ("line", 0, 1)
        self.assertEqual(unfolded(WEB, (there, (0, (back,) * 200))), [1, 0] * 200)
        self.assertEqual(refused(self, TooLong, unfolded, WEB, (there, (0, (back,) * 200 + (1,)))).most, 400)
        self.assertEqual(refused(self, TooLong, unfolded, WEB, doubled(2000)).most, 400)

    def test_long_lines_that_are_not_done(self):
        self.assertEqual(unfolded(WEB, (*doubled(100), (0, (1,)), (1, (("line", 101, -1), 2)))), [0, 2])

    def test_empty_lines_done_very_often(self):
        fold = doubled(2900, (3, ()))
        self.assertEqual((unfolded(WEB, fold, most=0), length(WEB, fold)), ([], 0))
        self.assertEqual(led(walked(STANDING, [2, 3]), fold), walked(STANDING, [2, 3]))

    def test_the_bound_goes_by_name_alone(self):
        with self.assertRaises(TypeError):
            unfolded(WEB, ABOUT, 400)

    def test_the_list_is_the_askers_own(self):
        fold = (*ABOUT, (0, (("line", 0, 1),)))
        unfolded(WEB, fold).clear()
        self.assertEqual(unfolded(WEB, fold), [1, 2, 0])


class Folded(unittest.TestCase):
    def test_a_line_for_each_four_hundred(self):
        for many in (0, 1, 2, 399, 400, 401, 799, 800, 801, 1200, 4001):
            walk = some_walk(WEB, 0, many)
            lines = max(1, -(-many // 400))
            fold = folded(0, walk)
            self.assertIs(type(fold), tuple)
            self.assertEqual(len(fold), lines if lines == 1 else lines + 1)
            for k in range(lines):
                begin, items = fold[k]
                self.assertEqual((begin, items), (([0] + walk)[400 * k], tuple(walk[400 * k:400 * k + 400])))
            if lines > 1:
                self.assertEqual(fold[-1], (0, tuple(("line", k, 1) for k in range(lines))))
            self.assertIs(is_fold(WEB, fold), True)
            self.assertEqual(unfolded(WEB, fold, most=many), walk)
            self.assertEqual(folded(0, tuple(walk)), fold)

    def test_told_examples(self):
        self.assertEqual(folded(4, []), ((4, ()),))
        self.assertEqual(folded(walk=[1, 2], begin=0), ((0, (1, 2)),))
        self.assertEqual(folded(0, [1, 0] * 200), ((0, (1, 0) * 200),))
        self.assertEqual(folded(0, [1, 0] * 200 + [2]),
                         ((0, (1, 0) * 200), (0, (2,)), (0, (("line", 0, 1), ("line", 1, 1)))))

    def test_the_walk_is_not_looked_at(self):
        self.assertEqual(folded(0, [0, 0, 4, 77]), ((0, (0, 0, 4, 77)),))
        self.assertEqual(folded(0, [77] * 401), ((0, (77,) * 400), (77, (77,)), (0, (("line", 0, 1), ("line", 1, 1)))))

    def test_the_list_may_be_changed_behind(self):
        walk = [1, 2, 0]
        fold = folded(0, walk)
        self.assertEqual(walk, [1, 2, 0])
        walk.clear()
        self.assertEqual(fold, ABOUT)


class TurnedBack(unittest.TestCase):
    def test_it_undoes_the_fold(self):
        for web in MANY_WEBS:
            for begin in range(web.many()):
                fold = some_fold(web, begin)
                behind = turned_back(web, fold)
                self.assertIs(is_fold(web, behind), True)
                walk = lines_unfolded(fold)[-1][1]
                self.assertEqual(lines_unfolded(behind)[-1], (([begin] + walk)[-1], ([begin] + walk)[-2::-1]))
                standing = standing_of(web, begin)
                self.assertEqual(led(led(standing, fold), behind), standing)
                start, end, rows = effect(web, fold)
                self.assertEqual(effect(web, behind),
                                 (end, start, sorted((to, place, inverse(turn)) for place, to, turn in rows)))

    def test_by_name_and_nothing_changed(self):
        fold = doubled(70)
        behind = turned_back(fold=fold, web=WEB)
        self.assertEqual(fold, doubled(70))
        self.assertEqual(length(WEB, behind), length(WEB, fold))
        self.assertEqual(led(led(STANDING, fold), behind), STANDING)


class OneBehindOther(unittest.TestCase):
    def test_both_are_done(self):
        for web in MANY_WEBS:
            for begin in range(web.many()):
                one = some_fold(web, begin)
                end = effect(web, one)[1]
                other = some_fold(web, end, 1)
                both = one_behind_other(web, one, other)
                self.assertIs(is_fold(web, both), True)
                walk = lines_unfolded(one)[-1][1] + lines_unfolded(other)[-1][1]
                self.assertEqual(unfolded(web, both, most=10 ** 6), walk)
                standing = standing_of(web, begin)
                self.assertEqual(led(standing, both), led(led(standing, one), other))

    def test_one_with_itself_and_what_undoes_it(self):
        fold = doubled(61)
        self.assertEqual(length(WEB, one_behind_other(WEB, fold, fold)), 6 * 2 ** 61)
        self.assertEqual(led(STANDING, one_behind_other(web=WEB, other=turned_back(WEB, fold), one=fold)), STANDING)

    def test_unlike(self):
        one = ((0, (1, 2)), (2, (3,)))
        for begin in range(5):
            if begin != 3:
                refused(self, Unlike, one_behind_other, WEB, one, ((begin, ()),))
        self.assertEqual(effect(WEB, one_behind_other(WEB, one, ((3, (2,)),)))[:2], (2, 2))
        refused(self, Unlike, one_behind_other, WEB, ((0, (1,)),), ABOUT)


class ManyLines(unittest.TestCase):
    """Some three thousand lines, and lines of four hundred items, in fair time."""

    def test_three_thousand_lines(self):
        web = web_of("round of eight", 5)
        row = tuple(some_walk(web, 0, 1))
        fold = ((0, (*row, 0)),)
        fold += tuple((0, tuple(("line", k, -1 if j % 3 else 1) for j in range(4))) for k in range(2998))
        fold += ((0, (("line", 2998, 1), ("line", 2998, -1))),)
        self.assertEqual(len(fold), 3000)
        self.assertIs(is_fold(web, fold), True)
        self.assertEqual(effect(web, fold), (0, 0, [(k, k, plain_of(5)) for k in range(1, 8)]))
        self.assertEqual(length(web, fold), 2 * 2 * 4 ** 2998)
        self.assertEqual(led(standing_of(web, 0), fold), standing_of(web, 0))
        self.assertEqual(len(turned_back(web, fold)), 3001)
        refused(self, TooLong, unfolded, web, fold)

    def test_lines_one_in_the_other(self):
        fold = (*ABOUT, *[(0, (("line", k, -1),)) for k in range(2998)])
        self.assertEqual(unfolded(WEB, fold), [1, 2, 0])
        self.assertEqual(effect(WEB, fold), effect(WEB, ABOUT))
        fold += ((0, (("line", 2998, 1),) * 133 + (1,)),)
        self.assertEqual(unfolded(WEB, fold), [1, 2, 0] * 133 + [1])

    def test_four_hundred_items_by_each_of_many_lines(self):
        fold = (*ABOUT, *[(0, (("line", k, 1),) * 400) for k in range(300)])
        self.assertEqual(length(WEB, fold), 3 * 400 ** 300)
        self.assertEqual(is_fold(WEB, fold), True)
        self.assertEqual(effect(WEB, fold)[:2], (0, 0))


class Turns(unittest.TestCase):
    def test_each_way_turns_who_goes_it(self):
        for web in MANY_WEBS:
            for one, other, _ in web.ways():
                for begin, to in ((one, other), (other, one)):
                    rows = {row[0]: row[1:] for row in effect(web, ((begin, (to,)),))[2]}
                    self.assertEqual(rows[to], (begin, turn_of(web, to, begin)))


if __name__ == "__main__":
    unittest.main()
