"""The interface, and what LANGUAGE.md says of folders, files and lines."""

import ast
import os
import unittest

FOLDER = os.path.join(os.path.dirname(os.path.abspath(__file__)), os.pardir, "firstfuse")
LIBRARY = ("heapq", "math", "itertools", "collections", "__future__")
INTERFACE = {
    "errors.py": {
        "FuseError": None,
        "BadBoard": ["error"],
        "BadText": ["line"],
        "TooGreat": None,
        "Unlike": None,
        "Full": None,
        "NotStrained": ["fuse"],
        "TooEarly": ["fuses"],
        "NothingToUndo": None,
        "NothingToRedo": None,
        "NoLamp": ["lamp"],
        "NoFuse": ["fuse"],
    },
    "boards.py": {
        "board_error": ["value"],
        "way_of": ["board", "fuse"],
        "fuses_behind": ["board", "fuse"],
        "lamps_behind": ["board", "fuse"],
    },
    "loads.py": {
        "lit": ["board", "on", "blown"],
        "load": ["board", "on", "blown", "fuse"],
        "loads": ["board", "on", "blown"],
        "strained": ["board", "on", "blown"],
        "at_rest": ["board", "on", "blown"],
    },
    "coming.py": {
        "can_come": ["board", "on", "value"],
        "is_order": ["board", "on", "value"],
        "order_for": ["board", "on", "blown"],
        "bar_for": ["board", "on", "blown"],
        "count_come": ["board", "on"],
    },
    "ends.py": {
        "is_end": ["board", "on", "value"],
        "count_ends": ["board", "on"],
        "fewest_end": ["board", "on"],
        "most_end": ["board", "on"],
        "least_load": ["board", "on"],
        "greatest_load": ["board", "on"],
    },
    "fates.py": {
        "shown": ["board", "on", "bright", "dark"],
        "fate": ["board", "on", "lamp"],
        "fates": ["board", "on"],
        "brightest": ["board", "on"],
        "darkest": ["board", "on"],
        "least_beside": ["board", "on", "fuse"],
    },
    "stories.py": {
        "story_error": ["board", "value"],
        "on_after": ["board", "story"],
        "moments": ["board", "story", "blown"],
        "can_have_come": ["board", "story", "value"],
        "is_tale": ["board", "story", "value"],
        "tale_for": ["board", "story", "blown"],
    },
    "finding.py": {
        "all_come": ["board", "story"],
        "fitting": ["board", "story", "seen"],
        "surely_blown": ["board", "story", "seen"],
        "maybe_blown": ["board", "story", "seen"],
        "best_look": ["board", "story", "seen"],
        "fewest_looks": ["board", "story", "seen"],
    },
    "speeds.py": {
        "speeds_error": ["board", "value"],
        "come_by": ["board", "on", "speeds"],
        "ends_by": ["board", "on", "speeds"],
        "is_order_by": ["board", "on", "speeds", "value"],
        "order_by": ["board", "on", "speeds", "blown"],
        "is_guarded": ["board", "speeds"],
        "unguarded": ["board", "speeds"],
    },
    "always.py": {
        "never_blows": ["board"],
        "steady": ["board"],
        "lamps_for": ["board", "fuse"],
        "is_safe": ["board", "on"],
        "count_safe": ["board"],
        "most_safe": ["board"],
        "heaviest_safe": ["board"],
        "least_marks": ["board", "lots"],
    },
    "alike.py": {
        "outcomes": ["board", "on"],
        "parting": ["board", "other"],
        "spare": ["board"],
    },
    "texts.py": {
        "board_text": ["board"],
        "story_text": ["story"],
        "read_board": ["value"],
        "read_story": ["board", "value"],
    },
    "panels.py": {
        "Panel": ["value"],
    },
}

METHODS = {
    "put_on": ["lamp"],
    "put_off": ["lamp"],
    "pause": [],
    "blow": ["fuse"],
    "undo": [],
    "redo": [],
    "lit": [],
    "strained": [],
    "is_dark": ["lamp"],
    "twin": [],
    "__len__": [],
    "__eq__": ["other"],
    "__str__": [],
}


def text_of(name):
    with open(os.path.join(FOLDER, name), encoding="utf-8", newline="") as file:
        return file.read()


def source_names():
    return sorted(name for name in os.listdir(FOLDER) if name != "__pycache__")


def arguments_of(node):
    """The arguments of a function, or those with which a class is made."""
    if isinstance(node, ast.ClassDef):
        makers = [part for part in node.body if isinstance(part, ast.FunctionDef) and part.name == "__init__"]
        return [part.arg for part in makers[0].args.args[1:]] if makers else None
    return [part.arg for part in node.args.args]


class LayoutTest(unittest.TestCase):
    def test_each_name_is_defined_in_its_file(self):
        for name, listed in INTERFACE.items():
            defined = {
                node.name: arguments_of(node)
                for node in ast.parse(text_of(name)).body
                if isinstance(node, (ast.FunctionDef, ast.ClassDef))
            }
            self.assertEqual(listed, {word: defined[word] for word in listed}, name)

    def test_each_method_is_defined_in_its_class(self):
        panel = [node for node in ast.parse(text_of("panels.py")).body if isinstance(node, ast.ClassDef)][0]
        self.assertEqual(("Panel", []), (panel.name, panel.bases))
        defined = {node.name: arguments_of(node)[1:] for node in panel.body if isinstance(node, ast.FunctionDef)}
        self.assertEqual(METHODS, {word: defined[word] for word in METHODS})
        self.assertTrue({"board", "on", "blown", "story", "tale", "version"} < set(defined))

    def test_files(self):
        self.assertIn("__init__.py", source_names())
        for name in source_names():
            self.assertTrue(name.endswith(".py") and name == name.lower(), name)

    def test_sizes_and_characters(self):
        for name in source_names():
            text = text_of(name)
            lines = text.split("\n")
            self.assertLessEqual(len(lines) - 1, 399, name)
            self.assertLessEqual(max(len(line) for line in lines), 120, name)
            self.assertTrue(all(sign == "\n" or " " <= sign <= "~" for sign in text), name)
            for node in ast.walk(ast.parse(text)):
                if isinstance(node, ast.FunctionDef):
                    self.assertLessEqual(node.end_lineno - node.lineno + 1, 40, (name, node.name))

    def test_imports(self):
        for name in source_names():
            for node in ast.walk(ast.parse(text_of(name))):
                self.assertNotIsInstance(node, ast.Import, name)
                if isinstance(node, ast.ImportFrom):
                    self.assertEqual(0, node.level, name)
                    self.assertTrue(node.module in LIBRARY or node.module.startswith("firstfuse."), name)


if __name__ == "__main__":
    unittest.main()
