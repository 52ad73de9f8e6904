"""The interface at the document's end, and what the language tells of files."""

import ast
import importlib
import inspect
import unittest
from pathlib import Path

import turncoats
from turncoats.chains import Chain
from turncoats.standings import Standing
from turncoats.standingtexts import standing_text
from turncoats.webs import Web
from turncoats.webtexts import web_text
from turncoats.wishes import Wish
from turncoats.yard import Yard

PACKAGE = Path(turncoats.__file__).parent
INTERFACE = {
    "turns": {
        "is_turn": ["thing", "size"], "plain": ["size"], "into": ["one", "other"], "undone": ["turn"],
        "times": ["turn", "n"], "order": ["turn"], "sign": ["turn"],
    },
    "groups": {
        "made": ["turns", "size"], "is_group": ["thing", "size"], "word": ["turns", "goal"],
        "lot": ["turn", "group"], "lots": ["group", "size"], "commuted": ["group"], "leadings": ["group"],
        "thirds": ["group"],
    },
    "webtexts": {"web_text": ["web"], "read_web": ["text"]},
    "parts": {"parts": ["web"], "kind": ["web", "part"], "root": ["web", "part", "place"], "round_of": ["web", "part"]},
    "standingtexts": {"standing_text": ["standing"], "read_standing": ["web", "text"]},
    "walks": {
        "walked": ["standing", "walk"], "is_fold": ["web", "thing"], "effect": ["web", "fold"],
        "led": ["standing", "fold"], "length": ["web", "fold"], "unfolded": ["web", "fold", "*most"],
        "folded": ["begin", "walk"], "turned_back": ["web", "fold"], "one_behind_other": ["web", "one", "other"],
    },
    "foldtexts": {"fold_text": ["fold"], "read_fold": ["text"]},
    "heights": {
        "heights": ["web", "part", "root"], "own_way": ["web", "part", "root", "one", "other"],
        "own_turn": ["standing", "part", "root", "name"], "group_of": ["web", "part", "root"],
    },
    "wishes": {"wish_of": ["standing"]},
    "rounds": {
        "about": ["standing", "part", "n"], "period": ["web", "part"], "abouts": ["standing", "wish", "part"],
    },
    "bars": {"bar": ["standing", "wish"]},
    "judge": {"bars": ["standing", "wish", "thing"]},
    "reach": {"reach": ["standing", "wish"], "come_of": ["web", "place"]},
    "fewest": {"fewest": ["standing", "wish", "*most"], "leads": ["standing", "wish", "walk"]},
    "yard": {"led_by": ["web", "log"]},
}
# The classes: how they are made, and their methods.
CLASSES = {
    ("webs", "Web"): {
        "__init__": ["many", "ways", "*size"], "many": [], "size": [], "ways": [], "beside": ["place"],
        "turn": ["one", "other"], "joined": ["place"], "__eq__": ["other"],
    },
    ("standings", "Standing"): {
        "__init__": ["web", "folk"], "web": [], "empty": [], "folk": [], "names": [], "where": ["name"],
        "coat": ["name"], "who": ["place"], "step": ["place"], "__eq__": ["other"],
    },
    ("wishes", "Wish"): {
        "__init__": ["web", "empty", "told"], "empty": [], "told": [], "granted": ["standing"], "led": ["walk"],
        "__eq__": ["other"],
    },
    ("chains", "Chain"): {"__init__": ["web", "place"], "size": [], "fold": ["one", "other"]},
    ("yard", "Yard"): {
        "__init__": ["web"], "keep": ["name", "folk"], "drop": ["name"], "step": ["name", "place"],
        "lead": ["name", "fold"], "lay": ["one", "other", "turn"], "shut": ["one", "other"],
        "dress": ["name", "who", "coat"], "kinds": [], "news": [], "paper": ["name", "other"], "log": [], "web": [],
        "names": [], "standing": ["name"],
    },
}


def arguments_of(what):
    """The names of the arguments, those behind a * with it."""
    found = []
    for one in inspect.signature(what).parameters.values():
        assert one.kind in (one.POSITIONAL_OR_KEYWORD, one.KEYWORD_ONLY), one
        found.append(one.name if one.kind is one.POSITIONAL_OR_KEYWORD else "*" + one.name)
    return found


def trees():
    for path in sorted(PACKAGE.glob("*.py")):
        yield path, ast.parse(path.read_text(encoding="utf-8"))


class Interface(unittest.TestCase):
    def test_each_def_stands_in_its_file(self):
        for file, told in INTERFACE.items():
            tree = ast.parse((PACKAGE / f"{file}.py").read_text(encoding="utf-8"))
            defs = [node.name for node in tree.body if isinstance(node, ast.FunctionDef)]
            for name in told:
                with self.subTest(file=file, name=name):
                    self.assertEqual(defs.count(name), 1)

    def test_arguments_are_named_as_told_and_go_by_place_or_name(self):
        for file, told in INTERFACE.items():
            module = importlib.import_module(f"turncoats.{file}")
            for name, arguments in told.items():
                with self.subTest(file=file, name=name):
                    self.assertEqual(arguments_of(getattr(module, name)), arguments)

    def test_each_class_stands_in_its_file_with_its_methods(self):
        for (file, name), told in CLASSES.items():
            made = getattr(importlib.import_module(f"turncoats.{file}"), name)
            self.assertEqual(made.__module__, f"turncoats.{file}")
            for method, arguments in told.items():
                with self.subTest(name=name, method=method):
                    self.assertEqual(arguments_of(vars(made)[method]), ["self", *arguments])

    def test_the_package_itself_binds_nothing(self):
        tree = ast.parse((PACKAGE / "__init__.py").read_text(encoding="utf-8"))
        self.assertEqual([node for node in tree.body if not isinstance(node, ast.Expr)], [])


class Named(unittest.TestCase):
    """[0.3]: arguments by the told names, in any order, defaults left out and told."""

    def setUp(self):
        self.web = Web(ways=[(0, 1, (1, 2, 0)), (1, 2, (0, 1, 2)), (2, 0, (0, 1, 2))], many=3)
        self.standing = Standing(folk={"a": (1, (0, 1, 2)), "b": (2, (0, 1, 2))}, web=self.web)
        self.wish = Wish(told={"a": (2, None)}, empty=0, web=self.web)
        self.given = {
            "web": self.web, "standing": self.standing, "wish": self.wish, "part": (0, 1, 2), "root": 0, "name": "a",
            "place": 0, "one": 0, "other": 1, "thing": ("apart",), "n": 3, "walk": [1, 0], "fold": ((0, (1, 0)),),
            "begin": 0, "turn": (1, 2, 0), "turns": [(1, 2, 0)], "goal": (2, 0, 1), "group": ((0, 1, 2),), "log": [],
            "most": 400, "size": 3, "text": "",
        }

    def given_for(self, file, name):
        told = dict(self.given)
        if (file, name) == ("turns", "into"):
            told.update(one=(1, 2, 0), other=(1, 0, 2))
        if name == "one_behind_other":
            told.update(one=self.given["fold"], other=self.given["fold"])
        if name in ("read_web", "read_standing"):
            told["text"] = web_text(self.web) if name == "read_web" else standing_text(self.standing)
        return told

    def test_each_def(self):
        for file, told in INTERFACE.items():
            module = importlib.import_module(f"turncoats.{file}")
            for name, arguments in told.items():
                with self.subTest(file=file, name=name):
                    what = getattr(module, name)
                    given = self.given_for(file, name)
                    plain = [one for one in arguments if one[0] != "*"]
                    by_place = what(*[given[one] for one in plain])
                    by_name = what(**{one: given[one] for one in reversed(plain)})
                    by_all = what(**{one.lstrip("*"): given[one.lstrip("*")] for one in reversed(arguments)})
                    if name == "led_by":
                        by_place, by_name, by_all = by_place.log(), by_name.log(), by_all.log()
                    self.assertEqual(by_place, by_name)
                    self.assertEqual(by_place, by_all)
                    for extra in [one[1:] for one in arguments if one[0] == "*"]:
                        with self.assertRaises(TypeError):
                            what(*[given[one] for one in plain], given[extra])

    def test_each_class(self):
        web, standing = self.web, self.standing
        self.assertEqual(web, Web(size=3, many=3, ways=web.ways()))
        self.assertEqual((web.turn(other=1, one=0), web.beside(place=0), web.joined(place=1)),
                         ((1, 2, 0), [1, 2], (0, 1, 2)))
        self.assertEqual((standing.where(name="a"), standing.coat(name="a")), (1, (0, 1, 2)))
        self.assertEqual(standing.who(place=1), "a")
        self.assertEqual(standing.step(place=1), standing.step(1))
        self.assertEqual(self.wish.granted(standing=standing), False)
        self.assertEqual(self.wish.led(walk=[1]), self.wish.led([1]))
        chain = Chain(place=0, web=web)
        self.assertEqual(chain.fold(other=standing, one=standing), ((0, ()),))
        yard = Yard(web=web)
        yard.keep(folk=standing.folk(), name="x")
        yard.keep(name="y", folk=standing.folk())
        yard.step(place=1, name="x")
        yard.lead(fold=((0, (2,)),), name="y")
        yard.shut(other=1, one=0)
        yard.lay(turn=(1, 2, 0), other=1, one=0)
        yard.dress(coat=(1, 0, 2), who="a", name="x")
        yard.drop(name="y")
        self.assertEqual(yard.standing(name="x").coat("a"), (1, 0, 2))
        self.assertEqual(yard.paper(other="x", name="x")[0], "fold")


class Files(unittest.TestCase):
    def test_imports_are_the_packages_own_or_let(self):
        for path, tree in trees():
            for node in ast.walk(tree):
                self.assertNotIsInstance(node, ast.Import, path)
                if isinstance(node, ast.ImportFrom):
                    own = node.module.startswith("turncoats.")
                    self.assertTrue(own or node.module in ("heapq", "math", "itertools", "collections"), path)

    def test_files_functions_and_lines_are_short(self):
        for path, tree in trees():
            lines = path.read_text(encoding="utf-8").split("\n")
            self.assertLess(len(lines), 400, path)
            self.assertLess(max(len(line) for line in lines), 121, path)
            for node in ast.walk(tree):
                if isinstance(node, ast.FunctionDef):
                    self.assertLess(node.end_lineno - node.lineno, 40, (path, node.name))

    def test_only_plain_signs(self):
        for path, _ in trees():
            text = path.read_text(encoding="utf-8")
            self.assertTrue(all(sign == "\n" or " " <= sign <= "~" for sign in text), path)

    def test_nothing_else_is_in_the_folder(self):
        found = [path.name for path in PACKAGE.iterdir() if path.name != "__pycache__" and path.suffix != ".py"]
        self.assertEqual(found, [])


if __name__ == "__main__":
    unittest.main()
