"""The examples of README.md and of ../shared/DOC.md come out as they are printed."""

import doctest
import re
import unittest
from importlib.util import find_spec
from pathlib import Path

ROOT = Path(__file__).resolve().parent.parent


def is_there(module):
    """Whether a module has been written, and the packages above it."""
    parts = module.split(".")
    return all(find_spec(".".join(parts[:many])) for many in range(1, len(parts) + 1))


def examples(path):
    """The examples of a text whose modules are there; one without an import goes on where the one before it ended."""
    parts = []
    for part in re.findall(r"^```\n(.*?)^```$", path.read_text(), re.M | re.S):
        if ">>> from" in part:
            parts.append(part)
        elif ">>>" in part:
            parts[-1] += part
    return [part for part in parts if all(is_there(module) for module in re.findall(r"from (\S+) import", part))]


class ExamplesTest(unittest.TestCase):
    def check(self, path, least):
        parts = examples(path)
        self.assertGreaterEqual(len(parts), least)
        for at, part in enumerate(parts):
            told = []
            test = doctest.DocTestParser().get_doctest(part, {}, f"{path.name} {at}", None, 0)
            doctest.DocTestRunner(verbose=False).run(test, out=told.append)
            self.assertEqual("".join(told), "")

    def test_readme(self):
        self.check(ROOT / "README.md", 5)

    def test_document(self):
        document = ROOT.parent / "shared" / "DOC.md"
        if document.exists():
            self.check(document, 9)


if __name__ == "__main__":
    unittest.main()
