"""Each example of the document, as it stands there, one point behind the other."""

import importlib
import pathlib
import unittest

FOLDER = pathlib.Path(__file__).parent / "examples"
MODULES = ("errors", "signs", "shapes", "records", "devices", "places", "fits", "threelives", "table", "log", "mending",
           "meaning", "carrying", "store", "stories", "outcomes", "costs", "wear", "readers", "server",
           "examiner", "judge", "texts", "desk")


def names_of_all():
    """All that the modules define, under its own name."""
    names = {}
    for module in MODULES:
        path = "halfring." + module
        for name, own in vars(importlib.import_module(path)).items():
            if getattr(own, "__module__", None) == path:
                names[name] = own
    return names


class TestExamples(unittest.TestCase):
    def run_example(self, call, wanted, names):
        if wanted == []:
            exec(call, names)
        elif wanted[0].startswith("raises "):
            self.run_refusal(call, wanted[0][len("raises "):], names)
        else:
            self.assertEqual(repr(eval(call, names)), repr(eval(wanted[0], {})), call)

    def run_refusal(self, call, wanted, names):
        name, _, inside = wanted.partition("(")
        error = names[name]
        expected = eval(name + "(" + inside, names)
        try:
            eval(call, names)
        except error as raised:
            self.assertIs(raised.__class__, error, call)
            self.assertEqual(vars(raised), vars(expected), call)
        else:
            self.fail(call + " raised nothing")

    def test_all(self):
        names = names_of_all()
        ran = 0
        for path in sorted(FOLDER.glob("*.txt")):
            lines = path.read_text().splitlines()
            starts = [at for at, line in enumerate(lines) if line.startswith(">>> ")]
            for at, end in zip(starts, starts[1:] + [len(lines)]):
                with self.subTest(path=path.name, line=at + 1):
                    self.assertLessEqual(end - at, 2)
                    self.run_example(lines[at][4:], lines[at + 1:end], names)
                ran += 1
        self.assertGreater(ran, 20)


if __name__ == "__main__":
    unittest.main()
