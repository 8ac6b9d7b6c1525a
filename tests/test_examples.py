"""The document's examples, as far as their modules are here, and those of README.md."""

import doctest
import pathlib
import unittest

STAGE_ONE = """
    >>> from forgetwhen.least import least_machine, parting_word
    >>> from forgetwhen.stories import story_places, story_readings
    >>> ring, latch = (((1, 2, 3, 3), (0, 0, 0, 0)), (0, 0, 0, 1)), (((1, 1), (0, 0)), (0, 1))
    >>> parting_word(ring, 0, 1), least_machine((((1, 2, 1), (0, 0, 0)), (0, 1, 0)))
    ((0, 0), (((1, 0), (0, 0)), (0, 1)))
    >>> story_places(latch, (0,), ((5, 1), (3, 0), (7, 0))), story_readings(latch, (0,), ((5, 1), (3, 0), (7, 0)))
    (((0, 1), (0, 0), (2, 0)), (0, 0, 0, 1))
"""

# Of the examples in chapters 1, 4 and 12, what needs these modules alone.
STAGE_TWO = """
    >>> from forgetwhen.needed import need_paper, needed_news, two_stories
    >>> from forgetwhen.texts import read_machine
    >>> valve = (((1, 0), (0, 0)), (0, 1))
    >>> two_stories(valve, (0, 1), ((20, 1),), 0, need_paper(valve, (0, 1), (1,), 0))
    (((1, 1), (0, 0)), ((1, 1), (2, 0)))
    >>> last = (((0, 0), (1, 1)), (0, 1))
    >>> needed_news(last, (0, 1), (0, 1, 1)), need_paper(last, (0, 1), (0,), 0)[0]
    ((2,), 'needed')
    >>> read_machine("machine 2\\nlate 1 0\\nprompt 0 0\\nshows 0 1") == (valve, (0,))
    True
"""

STAGE_THREE = """
    >>> from forgetwhen.twins import LeastTwin
    >>> valve = (((1, 0), (0, 0)), (0, 1))
    >>> twin = LeastTwin(valve, (0,))
    >>> twin.hear(20, 1), twin.hear(30, 0), twin.hear(10, 0), twin.hear(25, 0), twin.marks(), twin.reading()
    (None, None, None, None, (20,), 0)
    >>> from forgetwhen.needed import needed_news, need_paper
    >>> from forgetwhen.fewest import fewest_words
    >>> last = (((0, 0), (1, 1)), (0, 1))
    >>> needed_news(last, (0, 1), (0, 1, 1)), need_paper(last, (0, 1), (0,), 0)[0], fewest_words(last, (0, 1))
    ((2,), 'needed', 2)
"""

# Of the examples in chapters 1, 5 and 11, what needs these modules alone.
STAGE_FOUR = """
    >>> from forgetwhen.ways import growth, marks_by, marks_needed
    >>> valve = (((1, 0), (0, 0)), (0, 1))
    >>> marks_needed(valve, (0,)), marks_needed(valve, (0, 1))
    (1, None)
    >>> toggled = (((1, 0), (0, 0)), (0, 1))
    >>> marks_needed(toggled, (0,)), marks_by(toggled, (0,), 3), marks_needed(toggled, (0, 1)), growth(toggled, (0, 1))
    (1, (0, 1, 1, 1), None, (1, 1))
    >>> from forgetwhen.counts import counts_paper, marks_for
    >>> marks_for((((1, 0), (0, 0)), (0, 1)), (0, 1), 10 ** 18)
    1000000000000000000
"""

STAGE_FIVE = """
    >>> from forgetwhen.lateness import told_marks, told_needed
    >>> from forgetwhen.past import past_marks, past_needed
    >>> latch = (((1, 1), (0, 1)), (0, 1))
    >>> toggled = (((1, 0), (0, 0)), (0, 1))
    >>> told_needed(toggled, (1, 0), (1, 1)), told_marks(toggled, (1, 0))
    ((1,), (1, 1))
    >>> past_needed(latch, (0, 1), (0, 1, 0)), past_marks(latch, (0, 1)), past_marks(toggled, (0,))
    ((0,), 1, None)
    >>> from forgetwhen.withdrawn import withdrawn_marks
    >>> toggled = (((1, 0), (0, 0)), (0, 1))
    >>> withdrawn_marks(toggled, (), (0,)), withdrawn_marks(toggled, (0,), (1,))
    (1, None)
    >>> from forgetwhen.panels import panel_marks, shown_classes
    >>> from forgetwhen.plants import reader_places
    >>> turned = ((1, 0), (0, 0))
    >>> panel_marks((turned, ((0, 1), (0, 0))), (0,)), shown_classes((turned, (0, 1)), (0, 1))
    ((((), 0), ((0,), 1), ((0, 1), 1), ((1,), 0)), (0, 0))
    >>> reader_places(((((0, 0), (1, 1)),), (0, 1)))
    1
"""


class ExamplesTest(unittest.TestCase):
    def holds(self, text, name):
        test = doctest.DocTestParser().get_doctest(text, {}, name, name, 0)
        self.assertTrue(test.examples, name)
        told = []
        doctest.DocTestRunner(verbose=False).run(test, out=told.append)
        self.assertEqual("".join(told), "")

    def test_document(self):
        self.holds(STAGE_ONE, "stage one")
        self.holds(STAGE_TWO, "stage two")
        self.holds(STAGE_THREE, "stage three")
        self.holds(STAGE_FOUR, "stage four")
        self.holds(STAGE_FIVE, "stage five")

    def test_readme(self):
        self.holds((pathlib.Path(__file__).parent.parent / "README.md").read_text(), "README.md")
