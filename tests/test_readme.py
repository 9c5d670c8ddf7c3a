"""The examples of the README."""

import doctest
import pathlib
import unittest

README = pathlib.Path(__file__).resolve().parent.parent / "README.md"


class Readme(unittest.TestCase):
    def test_examples(self):
        text = README.read_text(encoding="utf-8").replace("```", "")
        found = doctest.DocTestParser().get_doctest(text, {}, "README.md", None, 0)
        self.assertGreater(len(found.examples), 10)
        self.assertEqual(doctest.DocTestRunner(verbose=False).run(found).failed, 0)

    def test_texts(self):
        from nextkind.deeds import Row
        from nextkind.houses import House
        from nextkind.quotas import Cap
        from nextkind.rules import First
        from nextkind.standings import Standing
        for read, text in ((House.read, "b 1 s 1"), (First.read, "s or b keep 1"),
                           (Cap.read, "both cap 2 1 small cap 1 1 big"), (Standing.read, "small b 1"),
                           (Row.read, "come small ; go small s")):
            self.assertIn(text, README.read_text(encoding="utf-8"))
            self.assertEqual(str(read(text)), text)


if __name__ == "__main__":
    unittest.main()
