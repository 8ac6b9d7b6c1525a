"""The document's examples, and those of README.md."""

import doctest
import pathlib
import unittest

# Chapter by chapter, as the document has them.
EXAMPLES = (
    ("chapter 1", r"""
    >>> from forgetwhen.needed import need_paper, two_stories
    >>> from forgetwhen.twins import LeastTwin
    >>> from forgetwhen.ways import marks_needed
    >>> valve = (((1, 0), (0, 0)), (0, 1))
    >>> twin = LeastTwin(valve, (0,))
    >>> twin.hear(20, 1), twin.hear(30, 0), twin.hear(10, 0), twin.hear(25, 0), twin.marks(), twin.reading()
    (None, None, None, None, (20,), 0)
    >>> marks_needed(valve, (0,)), marks_needed(valve, (0, 1))
    (1, None)
    >>> two_stories(valve, (0, 1), ((20, 1),), 0, need_paper(valve, (0, 1), (1,), 0))
    (((1, 1), (0, 0)), ((1, 1), (2, 0)))
"""),
    ("chapter 3", r"""
    >>> from forgetwhen.least import least_machine, parting_word
    >>> from forgetwhen.stories import story_places, story_readings
    >>> ring, latch = (((1, 2, 3, 3), (0, 0, 0, 0)), (0, 0, 0, 1)), (((1, 1), (0, 0)), (0, 1))
    >>> parting_word(ring, 0, 1), least_machine((((1, 2, 1), (0, 0, 0)), (0, 1, 0)))
    ((0, 0), (((1, 0), (0, 0)), (0, 1)))
    >>> story_places(latch, (0,), ((5, 1), (3, 0), (7, 0))), story_readings(latch, (0,), ((5, 1), (3, 0), (7, 0)))
    (((0, 1), (0, 0), (2, 0)), (0, 0, 0, 1))
"""),
    ("chapter 4", r"""
    >>> from forgetwhen.needed import needed_news, need_paper
    >>> from forgetwhen.fewest import fewest_words
    >>> last = (((0, 0), (1, 1)), (0, 1))
    >>> needed_news(last, (0, 1), (0, 1, 1)), need_paper(last, (0, 1), (0,), 0)[0], fewest_words(last, (0, 1))
    ((2,), 'needed', 2)
"""),
    ("chapter 5", r"""
    >>> from forgetwhen.ways import growth, marks_by, marks_needed
    >>> toggled = (((1, 0), (0, 0)), (0, 1))
    >>> marks_needed(toggled, (0,)), marks_by(toggled, (0,), 3), marks_needed(toggled, (0, 1)), growth(toggled, (0, 1))
    (1, (0, 1, 1, 1), None, (1, 1))
"""),
    ("chapter 8", r"""
    >>> from forgetwhen.lateness import told_marks, told_needed
    >>> from forgetwhen.past import past_marks, past_needed
    >>> latch = (((1, 1), (0, 1)), (0, 1))
    >>> toggled = (((1, 0), (0, 0)), (0, 1))
    >>> told_needed(toggled, (1, 0), (1, 1)), told_marks(toggled, (1, 0))
    ((1,), (1, 1))
    >>> past_needed(latch, (0, 1), (0, 1, 0)), past_marks(latch, (0, 1)), past_marks(toggled, (0,))
    ((0,), 1, None)
"""),
    ("chapter 9", r"""
    >>> from forgetwhen.withdrawn import withdrawn_marks
    >>> toggled = (((1, 0), (0, 0)), (0, 1))
    >>> withdrawn_marks(toggled, (), (0,)), withdrawn_marks(toggled, (0,), (1,))
    (1, None)
"""),
    ("chapter 10", r"""
    >>> from forgetwhen.panels import panel_marks, shown_classes
    >>> from forgetwhen.plants import reader_places
    >>> turned = ((1, 0), (0, 0))
    >>> panel_marks((turned, ((0, 1), (0, 0))), (0,)), shown_classes((turned, (0, 1)), (0, 1))
    ((((), 0), ((0,), 1), ((0, 1), 1), ((1,), 0)), (0, 0))
    >>> reader_places(((((0, 0), (1, 1)),), (0, 1)))
    1
"""),
    ("chapter 11", r"""
    >>> from forgetwhen.counts import counts_paper, marks_for
    >>> from forgetwhen.prompt import growing_lots, bar_machine
    >>> marks_for((((1, 0), (0, 0)), (0, 1)), (0, 1), 10 ** 18), growing_lots(bar_machine(3, (0, 2)))
    (1000000000000000000, ((0, 2),))
"""),
    ("chapter 12", r"""
    >>> from forgetwhen.live import Live
    >>> live = Live((((1, 0), (0, 0)), (0, 1)), (0,), (0,))
    >>> [live.do_deed(deed) for deed in ((10, 0, 0), (20, 1, 0), (30, 0, 0), (15, 0, 0), (30, 0, 1))]
    [(1, 0), (0, 1), (1, 1), (1, 1), (0, 1)]
    >>> live.room.kept(), live.room.if_late(0), live.room.may_show(), live.undo_deed(), live.room.shown()
    (((20, 1),), (0, 1), (0, 1), True, 1)

    >>> from forgetwhen.desk import Desk
    >>> desk = Desk()
    >>> [desk.say(line) for line in ("open 0\nmachine 2\nlate 1 0\nprompt 0 0\nshows 0 1", "hear 10 0", "hear 20 1", "hear 15 0")]
    ['done', '1 0', '0 1', '0 1']
    >>> [desk.say(line) for line in ("kept", "late 0", "if 1 hear 5 0", "withdraw 10 0", "marks", "undo", "deeds")]
    ['at 20 kind 1', '0 1', '3 1', '0 1', '1', 'yes', 'hear 10 0\nhear 20 1\nhear 15 0']
"""),
)


class ExamplesTest(unittest.TestCase):
    def holds(self, text, name):
        test = doctest.DocTestParser().get_doctest(text, {}, name, name, 0)
        self.assertTrue(test.examples, name)
        told = []
        doctest.DocTestRunner(verbose=False).run(test, out=told.append)
        self.assertEqual("".join(told), "")

    def test_document(self):
        for name, text in EXAMPLES:
            with self.subTest(name):
                self.holds(text, name)

    def test_readme(self):
        self.holds((pathlib.Path(__file__).parent.parent / "README.md").read_text(), "README.md")
