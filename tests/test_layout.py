"""The interface at the document's end, and what the language tells of files."""

import ast
import importlib
import inspect
import unittest
from pathlib import Path

import turncoats

PACKAGE = Path(turncoats.__file__).parent
INTERFACE = {
    "turns": {
        "is_turn": ["thing", "size"], "plain": ["size"], "into": ["one", "other"], "undone": ["turn"],
        "times": ["turn", "n"], "order": ["turn"], "sign": ["turn"],
    },
    "groups": {
        "made": ["turns", "size"], "is_group": ["thing", "size"], "word": ["turns", "goal"],
        "lot": ["turn", "group"], "lots": ["group", "size"], "commuted": ["group"], "leadings": ["group"],
        "thirds": ["group"],
    },
    "webtexts": {"web_text": ["web"], "read_web": ["text"]},
    "parts": {"parts": ["web"], "kind": ["web", "part"], "root": ["web", "part", "place"], "round_of": ["web", "part"]},
    "standingtexts": {"standing_text": ["standing"], "read_standing": ["web", "text"]},
    "walks": {
        "walked": ["standing", "walk"], "is_fold": ["web", "thing"], "effect": ["web", "fold"],
        "led": ["standing", "fold"], "length": ["web", "fold"], "unfolded": ["web", "fold", "*most"],
        "folded": ["begin", "walk"], "turned_back": ["web", "fold"], "one_behind_other": ["web", "one", "other"],
    },
    "foldtexts": {"fold_text": ["fold"], "read_fold": ["text"]},
    "heights": {
        "heights": ["web", "part", "root"], "own_way": ["web", "part", "root", "one", "other"],
        "own_turn": ["standing", "part", "root", "name"], "group_of": ["web", "part", "root"],
    },
}
# The classes: how they are made, and their methods.
CLASSES = {
    ("webs", "Web"): {
        "__init__": ["many", "ways", "*size"], "many": [], "size": [], "ways": [], "beside": ["place"],
        "turn": ["one", "other"], "joined": ["place"], "__eq__": ["other"],
    },
    ("standings", "Standing"): {
        "__init__": ["web", "folk"], "web": [], "empty": [], "folk": [], "names": [], "where": ["name"],
        "coat": ["name"], "who": ["place"], "step": ["place"], "__eq__": ["other"],
    },
}


def arguments_of(what):
    """The names of the arguments, those behind a * with it."""
    found = []
    for one in inspect.signature(what).parameters.values():
        assert one.kind in (one.POSITIONAL_OR_KEYWORD, one.KEYWORD_ONLY), one
        found.append(one.name if one.kind is one.POSITIONAL_OR_KEYWORD else "*" + one.name)
    return found


def trees():
    for path in sorted(PACKAGE.glob("*.py")):
        yield path, ast.parse(path.read_text(encoding="utf-8"))


class Interface(unittest.TestCase):
    def test_each_def_stands_in_its_file(self):
        for file, told in INTERFACE.items():
            tree = ast.parse((PACKAGE / f"{file}.py").read_text(encoding="utf-8"))
            defs = [node.name for node in tree.body if isinstance(node, ast.FunctionDef)]
            for name in told:
                with self.subTest(file=file, name=name):
                    self.assertEqual(defs.count(name), 1)

    def test_arguments_are_named_as_told_and_go_by_place_or_name(self):
        for file, told in INTERFACE.items():
            module = importlib.import_module(f"turncoats.{file}")
            for name, arguments in told.items():
                with self.subTest(file=file, name=name):
                    self.assertEqual(arguments_of(getattr(module, name)), arguments)

    def test_each_class_stands_in_its_file_with_its_methods(self):
        for (file, name), told in CLASSES.items():
            made = getattr(importlib.import_module(f"turncoats.{file}"), name)
            self.assertEqual(made.__module__, f"turncoats.{file}")
            for method, arguments in told.items():
                with self.subTest(name=name, method=method):
                    self.assertEqual(arguments_of(vars(made)[method]), ["self", *arguments])

    def test_the_package_itself_binds_nothing(self):
        tree = ast.parse((PACKAGE / "__init__.py").read_text(encoding="utf-8"))
        self.assertEqual([node for node in tree.body if not isinstance(node, ast.Expr)], [])


class Files(unittest.TestCase):
    def test_imports_are_the_packages_own_or_let(self):
        for path, tree in trees():
            for node in ast.walk(tree):
                self.assertNotIsInstance(node, ast.Import, path)
                if isinstance(node, ast.ImportFrom):
                    own = node.module.startswith("turncoats.")
                    self.assertTrue(own or node.module in ("heapq", "math", "itertools", "collections"), path)

    def test_files_functions_and_lines_are_short(self):
        for path, tree in trees():
            lines = path.read_text(encoding="utf-8").split("\n")
            self.assertLess(len(lines), 400, path)
            self.assertLess(max(len(line) for line in lines), 121, path)
            for node in ast.walk(tree):
                if isinstance(node, ast.FunctionDef):
                    self.assertLess(node.end_lineno - node.lineno, 40, (path, node.name))

    def test_only_plain_signs(self):
        for path, _ in trees():
            text = path.read_text(encoding="utf-8")
            self.assertTrue(all(sign == "\n" or " " <= sign <= "~" for sign in text), path)

    def test_nothing_else_is_in_the_folder(self):
        found = [path.name for path in PACKAGE.iterdir() if path.name != "__pycache__" and path.suffix != ".py"]
        self.assertEqual(found, [])


if __name__ == "__main__":
    unittest.main()
