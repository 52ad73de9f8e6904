"""[6.1], as far as texts of folds go, and their interface."""

import unittest

from tests.nets import ANYTHING, WEBS, some_fold, some_walk, some_webs, web_of
from tests.things import refused
from turncoats.errors import NoText
from turncoats.foldtexts import fold_text, read_fold
from turncoats.walks import folded

FOLD = ((0, (1, 2, 0)), (3, ()), (0, (("line", 0, 1), ("line", 0, -1), 1)), (1, (("line", 2, -1),)))
TEXT = "0: 1 2 0\n3:\n0: +0 -0 1\n1: -2\n"


class Written(unittest.TestCase):
    def test_told_examples(self):
        self.assertEqual(fold_text(FOLD), TEXT)
        self.assertEqual(fold_text(fold=((7, ()),)), "7:\n")
        many = (*[(0, ())] * 1200, (0, (("line", 1199, 1), ("line", 20, -1))))
        self.assertEqual(fold_text(many), "0:\n" * 1200 + "0: +1199 -20\n")

    def test_texts_are_read_as_they_were_written(self):
        for web in [*WEBS.values(), *some_webs(60)]:
            for begin in range(web.many()):
                fold = some_fold(web, begin)
                self.assertEqual(read_fold(fold_text(fold)), fold)
                self.assertEqual(fold_text(read_fold(fold_text(fold))), fold_text(fold))
        fold = folded(0, some_walk(web_of("cube"), 0, 3333))
        self.assertEqual(read_fold(fold_text(fold)), fold)


class Read(unittest.TestCase):
    def same(self, text):
        told = read_fold(text)
        self.assertEqual(told, FOLD)
        self.assertIs(type(told), tuple)
        self.assertTrue(all(type(line) is tuple and type(line[1]) is tuple for line in told))

    def test_by_name(self):
        self.assertEqual(read_fold(text=TEXT), FOLD)

    def test_the_last_line_feed_may_lack(self):
        self.same(TEXT[:-1])
        self.assertEqual(read_fold("0:"), ((0, ()),))

    def test_more_blanks(self):
        self.same("  0:  1   2 0  \n 3:   \n0: +0    -0 1\n    1: -2")

    def test_the_empty_text_alone(self):
        self.assertEqual(read_fold(""), ())
        for text in ["\n", " ", "\n\n", "  \n"]:
            self.assertEqual(refused(self, NoText, read_fold, text).row, 0)

    def test_whether_they_are_a_folds_is_not_looked_at(self):
        self.assertEqual(read_fold("999999999: 123456789 0\n0: +999999999 -1 +1\n"),
                         ((999999999, (123456789, 0)), (0, (("line", 999999999, 1), ("line", 1, -1), ("line", 1, 1)))))
        self.assertEqual(read_fold("8: 8 8"), ((8, (8, 8)),))

    def test_as_many_lines_as_one_likes(self):
        self.assertEqual(read_fold("0: 1 0\n" * 3000), ((0, (1, 0)),) * 3000)


class NoForm(unittest.TestCase):
    def row(self, text):
        return refused(self, NoText, read_fold, text).row

    def test_no_text(self):
        for at, thing in enumerate([thing for thing in ANYTHING if not isinstance(thing, str)]):
            with self.subTest(at=at):
                self.assertEqual(self.row(thing), 0)
        self.assertEqual(self.row(FOLD), 0)

    def test_a_row_that_is_none(self):
        for row in ["", " ", "0", ":", ": 1", "0 :", "0 : 1", "0:1", "0:1 2", "0 1 2", "0:: 1", "+0: 1", "-1: 1",
                    "00: 1",
                    "01: 1", "x: 1", "0: x", "0: 01", "0: 00", "0: +", "0: -", "0: +00", "0: -01", "0: ++1", "0: +-1",
                    "0: --1", "0: 1+", "0: 1-", "0: 1:", "0: :", "0: + 1", "0: - 1", "0: 1,2", "0: 1.0", "0: 1_0",
                    "0: #",
                    "1234567890: 1", "0: 1234567890", "0: +1234567890", "0: -1234567890", "0: 0000000001", "0: (1)",
                    "0: +0:", "0;", "0: line", "0.: 1", "0: 1 2 x 3", "0: " + "1" * 5000, "1" * 5000 + ":", "0: +1x"]:
            with self.subTest(row):
                self.assertEqual(self.row(row + "\n"), 0)
                self.assertEqual(self.row(row + "\n" + TEXT), 0)
                self.assertEqual(self.row(TEXT + row + "\n\n" + TEXT), 4)

    def test_a_row_without_words(self):
        self.assertEqual(self.row("\n" + TEXT), 0)
        self.assertEqual(self.row("0: 1\n\n0: 1\n"), 1)
        self.assertEqual(self.row("0: 1\n0: 1\n   \n!\n"), 2)
        self.assertEqual(self.row(TEXT + "\n"), 4)
        self.assertEqual(self.row(TEXT + " "), 4)

    def test_the_first_of_several(self):
        self.assertEqual(self.row("0:\n0: 1\n0: 1 x\n\n:\n"), 2)


if __name__ == "__main__":
    unittest.main()
