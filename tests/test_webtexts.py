"""[3.2] and what the interface tells of web texts."""

import unittest

from tests.nets import ANYTHING, WEBS, some_webs
from tests.things import refused
from turncoats.errors import BadWeb, NoSize, NoText
from turncoats.webs import Web
from turncoats.webtexts import read_web, web_text

WEB = Web(5, [(3, 1, (1, 2, 0)), (0, 1, (0, 2, 1)), (2, 0, (2, 1, 0))])
TEXT = "places 5 size 3\nway 0 1 021\nway 0 2 210\nway 1 3 201\n"


class Written(unittest.TestCase):
    def test_told_examples(self):
        self.assertEqual(web_text(WEB), TEXT)
        self.assertEqual(web_text(web=Web(2, [])), "places 2 size 3\n")
        self.assertEqual(web_text(Web(8, [(7, 6, (4, 0, 1, 2, 3))], size=5)), "places 8 size 5\nway 6 7 12340\n")

    def test_texts_are_read_as_they_were_written(self):
        for web in [*WEBS.values(), *some_webs(60)]:
            self.assertEqual(read_web(web_text(web)), web)
            self.assertEqual(web_text(read_web(web_text(web))), web_text(web))


class Read(unittest.TestCase):
    def same(self, text):
        self.assertEqual(read_web(text), WEB)
        self.assertIs(type(read_web(text)), Web)

    def test_by_name(self):
        self.assertEqual(read_web(text=TEXT), WEB)

    def test_the_last_line_feed_may_lack(self):
        self.same(TEXT[:-1])
        self.assertEqual(read_web("places 2 size 3"), Web(2, []))

    def test_any_order_and_either_way_about(self):
        self.same("places 5 size 3\nway 1 3 201\nway 0 2 210\nway 0 1 021\n")
        self.same("places 5 size 3\nway 3 1 120\nway 2 0 210\nway 1 0 021\n")

    def test_more_blanks(self):
        self.same("  places   5 size     3 \n way 0  1 021\nway 0 2 210    \n      way    1    3    201    ")

    def test_rows_without_words(self):
        self.same("\n\n   \n" + TEXT.replace("\n", "\n \n\n") + "\n  \n")

    def test_sixteen_ways(self):
        rows = [f"way {one} {other} 10\n" for one in range(7) for other in range(one + 1, 7)]
        self.assertEqual(len(read_web("places 7 size 2\n" + "".join(rows[:16])).ways()), 16)
        refused(self, BadWeb, read_web, "places 7 size 2\n" + "".join(rows[:17]))


class NoForm(unittest.TestCase):
    def row(self, text):
        return refused(self, NoText, read_web, text).row

    def test_no_text(self):
        for at, thing in enumerate([thing for thing in ANYTHING if not isinstance(thing, str)]):
            with self.subTest(at=at):
                self.assertEqual(self.row(thing), 0)
        self.assertEqual(self.row([TEXT]), 0)

    def test_places_lacking(self):
        self.assertEqual([self.row(text) for text in ["", " ", "\n", "\n\n", "\n ", " \n \n ", "\n\n\n   \n"]],
                         [0, 1, 1, 2, 2, 3, 4])

    def test_a_way_ahead_of_places(self):
        self.assertEqual(self.row("way 0 1 021\nplaces 5 size 3\n"), 0)
        self.assertEqual(self.row("\n \nway 0 1 021\nplaces 5 size 3\n"), 2)
        self.assertEqual(self.row("way 0 1 021"), 0)

    def test_places_twice(self):
        self.assertEqual(self.row("places 5 size 3\nplaces 5 size 3\n"), 1)
        self.assertEqual(self.row(TEXT + "\n" + TEXT), 5)

    def test_a_places_row_that_is_none(self):
        for row in ["places", "places 5", "places 5 size", "places 5 3", "places 5 size 3 3", "places 5 size 3 way",
                    "place 5 size 3", "Places 5 size 3", "PLACES 5 SIZE 3", "places 5 sizes 3", "places size 5 3",
                    "places5 size 3", "places 5size 3", "places 05 size 3", "places 5 size 03", "places 00 size 3",
                    "places -5 size 3", "places +5 size 3", "places 5.0 size 3", "places five size 3",
                    "places 5 size x",
                    "places 1234567890 size 3", "places 5 size 1000000000", "places 0000000005 size 3", "5 3",
                    "places 5 size 3.", "places: 5 size 3", "places 5, size 3", "places 5_0 size 3", "#", "way",
                    "places 5 size " + "3" * 5000]:
            with self.subTest(row):
                self.assertEqual(self.row(row), 0)
                self.assertEqual(self.row(" \n" + row + "\nway 0 1 021\n"), 1)
                self.assertEqual(self.row("places 5 size 3\n" + row), 1)

    def test_a_way_row_that_is_none(self):
        for row in ["way", "way 0", "way 0 1", "way 0 1 021 3", "way 0 1 0 2 1", "Way 0 1 021", "ways 0 1 021",
                    "0 1 021", "way 00 1 021", "way 0 01 021", "way 0 1 02x", "way 0 1 (0,2,1)", "way -0 1 021",
                    "way 0 +1 021",
                    "way 0 1 0123456789", "way 0 1 0000000000", "way 0 1234567890 021", "way 1234567890 0 021",
                    "way a b 021", "way 0,1 021", "way 0 1 -021", "way 0 1 0.1", "way 0 1 021 #", "way01021",
                    "way 0 1 " + "0" * 5000, "places", "!", "way 0 1 0_2"]:
            with self.subTest(row):
                self.assertEqual(self.row("places 5 size 3\n" + row), 1)
                self.assertEqual(self.row(TEXT + "  \n" + row + "\nway 0 1\n"), 5)
                self.assertEqual(self.row("\n" + row + "\n" + TEXT), 1)

    def test_the_first_of_several(self):
        self.assertEqual(self.row("places 5 size 3\nway 0 1 021\nway\nplaces 5 size 3\n"), 2)
        self.assertEqual(self.row("places 5 size 3\nplaces 5 size 3\nway\n"), 1)
        self.assertEqual(self.row("way\nplaces 5 size 9"), 0)

    def test_form_comes_ahead_of_what_is_told(self):
        self.assertEqual(self.row("places 1 size 9\nway 0 0 0\nway 0 1"), 2)


class NotSo(unittest.TestCase):
    def test_no_size(self):
        for size in ["0", "1", "6", "9", "10", "999999999"]:
            refused(self, NoSize, read_web, f"places 5 size {size}\n")
            refused(self, NoSize, read_web, f"places 1 size {size}\nway 0 0 9\n")

    def test_bad_web(self):
        for text in ["places 0 size 3", "places 1 size 3", "places 9 size 3", "places 999999999 size 3",
                     "places 5 size 3\nway 0 0 012", "places 5 size 3\nway 0 5 012", "places 5 size 3\nway 5 0 012",
                     "places 5 size 3\nway 999999999 0 012", "places 5 size 3\nway 0 1 01",
                     "places 5 size 3\nway 0 1 0",
                     "places 5 size 3\nway 0 1 123", "places 5 size 3\nway 0 1 001", "places 5 size 3\nway 0 1 0123",
                     "places 5 size 3\nway 0 1 012345678", "places 5 size 3\nway 0 1 999999999",
                     "places 5 size 3\nway 0 1 012\nway 0 1 012", "places 5 size 3\nway 0 1 012\nway 1 0 012"]:
            with self.subTest(text):
                refused(self, BadWeb, read_web, text)


if __name__ == "__main__":
    unittest.main()
