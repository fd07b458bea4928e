"""Runs all examples of the document, in its order, and compares each answer."""

import re
import unittest

from holeshift import errors
from tests.helper import DOC, Case

# In the document's order, as examples use what earlier ones imported and bound.
HEADINGS = [
    "holeshift/amounts.py", "holeshift/linear.py", "holeshift/items.py", "holeshift/offices.py", "holeshift/gaps.py",
    "holeshift/rows.py", "holeshift/prices.py", "holeshift/books.py", "holeshift/blinds.py", "holeshift/hands.py",
    "holeshift/menus.py", "holeshift/holding.py", "holeshift/compare.py", "holeshift/texts.py, holeshift/reader.py",
    "holeshift/desk.py",
]


def section(text, heading):
    """What stands under a heading, to the next one."""
    parts = re.split(r"^## (.*)$", text, flags=re.MULTILINE)
    return parts[parts.index(heading) + 1]


def examples(text):
    """The pairs (source, wanted answer) of all examples in a section."""
    found = []
    for block in re.findall(r"^```\n(.*?)^```$", text, flags=re.MULTILINE | re.DOTALL):
        for line in block.splitlines():
            if line.startswith(">>> "):
                found.append(([line[4:]], []))
            elif line.startswith("... "):
                found[-1][0].append(line[4:])
            else:
                found[-1][1].append(line)
    return [("\n".join(source), "\n".join(wanted)) for source, wanted in found]


def told(error):
    """What identifies an error: its class, its fields, and the same of its cause."""
    if error is None:
        return None
    return type(error), vars(error), told(error.__cause__)


class TestExamples(Case):
    def test_examples(self):
        with open(DOC, encoding="utf-8") as file:
            text = file.read()
        names, many = {}, 0
        for heading in HEADINGS:
            found = examples(section(text, heading))
            self.assertGreater(len(found), 3, heading)
            many += len(found)
            for source, wanted in found:
                with self.subTest(heading=heading, source=source):
                    self.check(source, wanted, names)
        self.assertEqual(many, len(re.findall("^>>> ", text, flags=re.MULTILINE)))
        told = [heading for heading in re.findall("^## (.*)$", text, flags=re.MULTILINE) if heading in HEADINGS]
        self.assertEqual(told, HEADINGS)

    def check(self, source, wanted, names):
        try:
            answer = self.answer(source, names)
        except errors.ShiftError as error:
            self.assertTrue(wanted.startswith("raises "), f"raised {error!r}")
            self.assertEqual(told(error), told(self.wanted_error(wanted, names)))
        else:
            self.assertEqual("" if answer is None else repr(answer), wanted)

    def answer(self, source, names):
        try:
            code = compile(source, "example", "eval")
        except SyntaxError:
            exec(compile(source, "example", "exec"), names)
            return None
        return eval(code, names)

    def wanted_error(self, wanted, names):
        known = {**names, **vars(errors)}
        outer, _, cause = wanted.removeprefix("raises ").partition(" from ")
        error = eval(outer, known)
        error.__cause__ = eval(cause, known) if cause else None
        return error


if __name__ == "__main__":
    unittest.main()
