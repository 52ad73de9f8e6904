"""[5.1], as far as texts of standings go, and their interface."""

import unittest

from tests.nets import ANYTHING, WEBS, some_webs, standing_of
from tests.things import refused
from turncoats.errors import BadFolk, NoText
from turncoats.standings import Standing
from turncoats.standingtexts import read_standing, standing_text
from turncoats.webs import Web

WEB = Web(4, [(0, 1, (1, 2, 0)), (1, 2, (1, 0, 2)), (3, 1, (0, 2, 1))])
STANDING = Standing(WEB, {"dora": (3, (1, 0, 2)), "anna": (0, (0, 1, 2)), "emil": (2, (1, 2, 0))})
TEXT = "anna 0 012\ndora 3 102\nemil 2 120\n"


class Written(unittest.TestCase):
    def test_told_examples(self):
        self.assertEqual(standing_text(STANDING), TEXT)
        one = Standing(Web(2, [], size=5), {"z": (1, (4, 0, 1, 2, 3))})
        self.assertEqual(standing_text(standing=one), "z 1 40123\n")

    def test_texts_are_read_as_they_were_written(self):
        for web in [*WEBS.values(), *some_webs(60)]:
            for place in range(web.many()):
                standing = standing_of(web, place)
                self.assertEqual(read_standing(web, standing_text(standing)), standing)


class Read(unittest.TestCase):
    def same(self, text):
        self.assertEqual(read_standing(WEB, text), STANDING)
        self.assertIs(type(read_standing(WEB, text)), Standing)

    def test_by_name(self):
        self.assertEqual(read_standing(text=TEXT, web=WEB), STANDING)

    def test_any_order(self):
        self.same("emil 2 120\nanna 0 012\ndora 3 102\n")
        self.assertEqual(read_standing(WEB, "emil 2 120\nanna 0 012\ndora 3 102\n").names(), ["anna", "dora", "emil"])

    def test_the_last_line_feed_may_lack(self):
        self.same(TEXT[:-1])

    def test_more_blanks_and_rows_without_words(self):
        self.same("\n  anna   0   012  \n\n   \n dora 3 102\nemil   2 120   ")
        self.same("\n\n" + TEXT + "\n  \n\n")


class NoForm(unittest.TestCase):
    def row(self, text):
        return refused(self, NoText, read_standing, WEB, text).row

    def test_no_text(self):
        for at, thing in enumerate([thing for thing in ANYTHING if not isinstance(thing, str)]):
            with self.subTest(at=at):
                self.assertEqual(self.row(thing), 0)
        self.assertEqual(self.row([TEXT]), 0)

    def test_a_row_that_is_none(self):
        for row in ["anna", "anna 0", "anna 0 012 3", "anna 0 0 1 2", "0 012", "anna 00 012", "anna 03 012",
                    "anna -1 012",
                    "anna +1 012", "anna x 012", "anna 0 01x", "anna 0 (0,1,2)", "anna 0 0123456789", "anna 0 -012",
                    "anna 1234567890 012", "anna 0, 012", "anna 0 012.", "anna012", "anna 0 " + "0" * 5000,
                    "anna " + "1" * 5000 + " 012", "places 4 size 3", "!", "anna 0 0_1", "anna 1_0 012"]:
            with self.subTest(row):
                self.assertEqual(self.row(row), 0)
                self.assertEqual(self.row(TEXT.replace("anna", "zoe") + " \n" + row + "\n!\n"), 4)

    def test_a_name_that_is_none(self):
        for name in ["Anna", "ANNA", "annA", "anna1", "1", "abcdefg", "an-na", "an_na", "~", "{", "`", "a.", "anna:",
                     "@"]:
            with self.subTest(name):
                self.assertEqual(self.row(f"{name} 0 012\n"), 0)
                self.assertEqual(self.row(f"\nemil 2 120\n{name} 0 012\n{name}\n"), 2)

    def test_the_second_row_of_a_name(self):
        self.assertEqual(self.row("anna 0 012\nanna 0 012\n"), 1)
        self.assertEqual(self.row("\nanna 0 012\n\ndora 3 102\nanna 2 012\ndora 2 102\n"), 4)
        self.assertEqual(self.row(TEXT + TEXT), 3)

    def test_form_comes_ahead_of_what_is_told(self):
        self.assertEqual(self.row("anna 9 999\ndora 9 999\nemil"), 2)
        self.assertEqual(self.row("anna 9 999\nanna 0 012\n"), 1)


class NotSo(unittest.TestCase):
    def name(self, text, web=WEB):
        return refused(self, BadFolk, read_standing, web, text).name

    def test_by_the_order_of_the_rows(self):
        self.assertEqual(self.name("emil 4 012\nanna 5 012\n"), "emil")
        self.assertEqual(self.name("zoe 0 012\nanna 0 012\nbert 9 9\n"), "anna")
        self.assertEqual(self.name("anna 0 012\nzoe 0 012\nbert 9 9\n"), "zoe")
        self.assertEqual(self.name("dora 0 012\nemil 1 012\nzoe 999999999 012\nanna 9 012"), "zoe")

    def test_coats_that_are_none(self):
        for coat in ["0", "01", "0123", "001", "123", "111", "999999999", "000000000", "012345678"]:
            with self.subTest(coat):
                self.assertEqual(self.name(f"anna 0 {coat}\ndora 3 102\nemil 2 120\n"), "anna")
        self.assertEqual(self.name("a 0 012\n", Web(2, [], size=2)), "a")

    def test_not_just_one_place_is_empty(self):
        for text in ["", "\n", "  ", "anna 0 012", "anna 0 012\ndora 3 102", TEXT + "fritz 1 012"]:
            with self.subTest(text):
                self.assertIs(self.name(text), None)
        self.assertEqual(self.name(TEXT + "fritz 1 012\ngerda 1 012"), "gerda")


if __name__ == "__main__":
    unittest.main()
