"""The interface: names, arguments, an __init__ that binds nothing, and stages that use those ahead of them."""

import ast
import importlib
import inspect
import pathlib
import subprocess
import sys
import unittest

ROOT = pathlib.Path(__file__).resolve().parent.parent
PACKAGE = ROOT / "cabinet"

# By each file: its stage, and its functions with their arguments.
INTERFACE = {
    "errors": (1, {}),
    "kinds": (1, {"kind_of": "(thing)", "is_name": "(thing)", "is_thing": "(thing)", "alike": "(one, other)",
                  "depth_of": "(thing)", "size_of": "(thing)", "copied": "(thing)"}),
    "ranks": (1, {"rank": "(thing)", "before": "(one, other)", "in_order": "(things, falling=False)"}),
    "signs": (2, {"tokens": "(text)"}),
    "writing": (2, {"written": "(thing)"}),
    "reading": (2, {"read": "(text)"}),
    "paths": (3, {"is_path": "(thing)", "path_text": "(path)", "read_path": "(text)"}),
    "reach": (3, {"thing_at": "(thing, path)", "has": "(thing, path)", "found_or": "(thing, path, other=None)",
                  "spots": "(thing)"}),
    "setting": (3, {"put": "(thing, path, new)", "inserted": "(thing, path, new)", "taken": "(thing, path)",
                    "changed_at": "(thing, word, path, new=None)"}),
    "papers": (4, {"is_paper": "(thing)", "done": "(thing, paper)"}),
    "backs": (4, {"back": "(thing, paper)"}),
    "differ": (4, {"difference": "(old, new)", "apart": "(one, other)"}),
}


class Interface(unittest.TestCase):
    def test_names_and_arguments(self):
        for file, (_, functions) in INTERFACE.items():
            module = importlib.import_module("cabinet." + file)
            for name, arguments in functions.items():
                self.assertEqual(str(inspect.signature(getattr(module, name))), arguments, name)

    def test_arguments_by_name(self):
        from cabinet.backs import back
        from cabinet.differ import apart, difference
        from cabinet.kinds import alike, copied
        from cabinet.papers import done, is_paper
        from cabinet.paths import is_path, path_text, read_path
        from cabinet.ranks import in_order
        from cabinet.reach import found_or, has, spots, thing_at
        from cabinet.reading import read
        from cabinet.setting import changed_at, inserted, put, taken
        from cabinet.signs import tokens
        from cabinet.writing import written
        self.assertTrue(alike(one=[1], other=[1]))
        self.assertEqual(copied(thing=[1]), [1])
        self.assertEqual(in_order(things=[1, 2], falling=True), [2, 1])
        self.assertEqual(tokens(text=""), [("end", "", 0)])
        self.assertEqual(written(thing=[1]), "[1]")
        self.assertEqual(read(text="[1]"), [1])
        self.assertTrue(is_path(thing=[1]))
        self.assertEqual(path_text(path=[1]), "[1]")
        self.assertEqual(read_path(text="[1]"), [1])
        self.assertEqual(thing_at(thing=[5], path=[0]), 5)
        self.assertTrue(has(thing=[5], path=[0]))
        self.assertEqual(found_or(thing=[5], path=[1], other=6), 6)
        self.assertEqual(spots(thing=[5]), [[], [0]])
        self.assertEqual(put(thing=[5], path=[0], new=6), [6])
        self.assertEqual(inserted(thing=[5], path=[0], new=6), [6, 5])
        self.assertEqual(taken(thing=[5], path=[0]), [])
        self.assertEqual(changed_at(thing=[5], word="put", path=[0], new=6), [6])
        self.assertTrue(is_paper(thing=[("take", [0])]))
        self.assertEqual(done(thing=[5], paper=[("take", [0])]), [])
        self.assertEqual(len(back(thing=[5], paper=[("take", [0])])), 1)
        self.assertEqual(len(difference(old=[5], new=[])), 1)
        self.assertTrue(apart(one=[("take", ["a"])], other=[("take", ["b"])]))

    def test_init_binds_nothing(self):
        code = "import cabinet; print([name for name in vars(cabinet) if not name.startswith('__')])"
        told = subprocess.run([sys.executable, "-c", code], cwd=ROOT, capture_output=True, text=True, check=True)
        self.assertEqual(told.stdout.strip(), "[]")

    def test_each_file_is_of_a_stage(self):
        files = sorted([path.stem for path in PACKAGE.glob("*.py") if path.stem != "__init__"])
        self.assertEqual(files, sorted(INTERFACE))

    def test_no_file_uses_one_of_a_later_stage(self):
        for file, (stage, _) in INTERFACE.items():
            for node in ast.walk(ast.parse((PACKAGE / (file + ".py")).read_text())):
                if isinstance(node, ast.ImportFrom):
                    used = node.module.split(".")[1]
                    self.assertLessEqual(INTERFACE[used][0], stage, (file, used))


if __name__ == "__main__":
    unittest.main()
