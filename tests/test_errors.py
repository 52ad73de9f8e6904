"""[0.4]: the refusals."""

import unittest

from tests import things
from turncoats import errors

FIELDS = {
    "NoSize": (), "NoTurn": (), "NoGroup": (), "BadWeb": (), "NoPlace": ("place",), "NoWay": ("one", "other"),
    "NoPart": (), "BadFolk": ("name",), "NoName": ("name",), "NoStep": ("at",), "NoFold": ("line",),
    "TooLong": ("most",), "TooMany": ("most",), "Unlike": (), "NoWish": ("name",), "NoLog": ("at",),
    "NoText": ("row",),
}
ODD = [0, 7, -1, 10 ** 5000, True, None, "", "anna", "two\nrows", [], [1], (), (1, 2), {}, {"a": 1},
       things.deep(list), things.deep(tuple)]


class Kinds(unittest.TestCase):
    def test_coat_error_is_a_value_error(self):
        self.assertEqual(errors.CoatError.__bases__, (ValueError,))

    def test_each_stands_straight_under_coat_error(self):
        for name in FIELDS:
            with self.subTest(name):
                self.assertEqual(getattr(errors, name).__bases__, (errors.CoatError,))

    def test_there_are_no_others(self):
        kinds = [thing for thing in vars(errors).values() if isinstance(thing, type)]
        self.assertEqual(sorted(kind.__name__ for kind in kinds), sorted(["CoatError", *FIELDS]))

    def test_each_is_defined_in_the_file(self):
        for name in ["CoatError", *FIELDS]:
            with self.subTest(name):
                self.assertEqual(getattr(errors, name).__module__, "turncoats.errors")

    def test_each_is_caught_as_itself_and_as_those_above_alone(self):
        for name in FIELDS:
            made = self.made(name)
            above = [one for one in FIELDS if isinstance(made, getattr(errors, one))]
            with self.subTest(name):
                self.assertEqual(above, [name])
                self.assertIsInstance(made, errors.CoatError)
                self.assertIsInstance(made, ValueError)

    def made(self, name):
        return getattr(errors, name)(*(FIELDS[name] or ["a text"]))


class Fields(unittest.TestCase):
    def test_fields_by_place(self):
        for name, fields in FIELDS.items():
            values = [(field, 1) for field in fields]
            if fields:
                raised = getattr(errors, name)(*values)
                for field, value in zip(fields, values):
                    with self.subTest(name, field=field):
                        self.assertIs(getattr(raised, field), value)

    def test_fields_by_name(self):
        for name, fields in FIELDS.items():
            if fields:
                raised = getattr(errors, name)(**{field: field * 2 for field in fields})
                for field in fields:
                    with self.subTest(name, field=field):
                        self.assertEqual(getattr(raised, field), field * 2)

    def test_fields_are_asked_for(self):
        for name, fields in FIELDS.items():
            if fields:
                with self.subTest(name), self.assertRaises(TypeError):
                    getattr(errors, name)()

    def test_fields_may_be_anything(self):
        for name, fields in FIELDS.items():
            for at, thing in enumerate(ODD):
                if fields:
                    raised = getattr(errors, name)(*[thing] * len(fields))
                    with self.subTest(name, at=at):
                        self.assertIsInstance(str(raised), str)
                        self.assertTrue(all(getattr(raised, field) is thing for field in fields))

    def test_the_others_are_made_of_a_text(self):
        for name, fields in FIELDS.items():
            if not fields:
                with self.subTest(name):
                    self.assertEqual(str(getattr(errors, name)("why it is so")), "why it is so")
        self.assertEqual(str(errors.CoatError("why")), "why")

    def test_they_can_be_raised(self):
        with self.assertRaises(errors.NoWay) as held:
            raise errors.NoWay(2, 5)
        self.assertEqual((held.exception.one, held.exception.other), (2, 5))
        with self.assertRaises(errors.CoatError):
            raise errors.Unlike("text")


if __name__ == "__main__":
    unittest.main()
