"""The document's examples, as far as their modules are here, and those of README.md."""

import doctest
import pathlib
import unittest

STAGE_ONE = """
    >>> from forgetwhen.least import least_machine, parting_word
    >>> from forgetwhen.stories import story_places, story_readings
    >>> ring, latch = (((1, 2, 3, 3), (0, 0, 0, 0)), (0, 0, 0, 1)), (((1, 1), (0, 0)), (0, 1))
    >>> parting_word(ring, 0, 1), least_machine((((1, 2, 1), (0, 0, 0)), (0, 1, 0)))
    ((0, 0), (((1, 0), (0, 0)), (0, 1)))
    >>> story_places(latch, (0,), ((5, 1), (3, 0), (7, 0))), story_readings(latch, (0,), ((5, 1), (3, 0), (7, 0)))
    (((0, 1), (0, 0), (2, 0)), (0, 0, 0, 1))
"""


class ExamplesTest(unittest.TestCase):
    def holds(self, text, name):
        test = doctest.DocTestParser().get_doctest(text, {}, name, name, 0)
        self.assertTrue(test.examples, name)
        told = []
        doctest.DocTestRunner(verbose=False).run(test, out=told.append)
        self.assertEqual("".join(told), "")

    def test_document(self):
        self.holds(STAGE_ONE, "stage one")

    def test_readme(self):
        self.holds((pathlib.Path(__file__).parent.parent / "README.md").read_text(), "README.md")
