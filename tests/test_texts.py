"""Promise [12], its second part."""

import re

from forgetwhen.errors import InvalidLate, InvalidMachine, InvalidStory, InvalidText, InvalidTwin
from forgetwhen.texts import machine_text, read_machine, read_story, read_twin, story_text, twin_text
from tests.support import EIGHT, RING, VALVE, Case, Chance, as_lists, lots_of, mixed_machines
from tests.test_tables import CLOSING, LOST, NO_RULES, full_table

ONE = (((0,),), (7,))
NO_STRINGS = (None, 0, True, (), [], ("machine 1",), ["a"])


def parts_of(text):
    """The words of a text and the blanks between them."""
    return re.findall(r"[a-z]+|[0-9]+| +|[^a-z0-9 ]", text)


def with_more_blanks(text):
    return "  " + " ".join(parts_of(text)).replace("\n", " \n  ") + "   "


def with_fewest_blanks(text):
    """Blanks stand between two rows of figures alone, or two of letters."""
    return re.sub(r"(?<=[a-z]) (?=[0-9\n])|(?<=[0-9\n]) (?=[a-z\n])", "", text)


def emptied(twin, chance):
    """A table in which some rules are not told."""
    return (twin[0], tuple(tuple(() if chance.below(3) == 0 else rule for rule in row) for row in twin[1]), twin[2])


class TextCase(Case):
    def wrong_at(self, read, marked):
        """The text without its sign ^ is refused where this sign stands."""
        at = marked.index("^")
        self.refuses(InvalidText, at, read, marked[:at] + marked[at + 1:])

    def all_wrong(self, read, texts):
        for marked in texts:
            with self.subTest(text=marked):
                self.wrong_at(read, marked)

    def is_read(self, read, text, value):
        """With more or fewer blanks, too; each beginning of it ends too early, or can be read."""
        for told in (text, with_more_blanks(text), with_fewest_blanks(text)):
            self.is_just(read(told), value)
        parts = parts_of(text)
        for many in range(len(parts)):
            begin = "".join(parts[:many])
            try:
                read(begin)
            except InvalidText as caught:
                self.is_just(caught.at, len(begin))


class MachineTextTest(TextCase):
    def test_examples(self):
        text = "machine 2\nlate 1 0\nprompt 0 0\nshows 0 1"
        self.is_just(machine_text(VALVE, (0,)), text)
        self.is_just(read_machine(text), (VALVE, (0,)))
        self.is_just(machine_text(ONE, ()), "machine 1\nprompt 0\nshows 7")
        self.is_just(machine_text(as_lists(VALVE), [1, 0]), "machine 2\nlate 1 0\nlate 0 0\nshows 0 1")
        self.is_just(read_machine("machine1\nlate0\nshows99"), ((((0,),), (99,)), (0,)))

    def test_there_and_back(self):
        for machine in (ONE, RING, EIGHT, *mixed_machines(20, 80, 8, 4, 100)):
            for late in lots_of(len(machine[0])):
                self.is_just(read_machine(machine_text(machine, late)), (machine, late))
        self.is_read(read_machine, machine_text(EIGHT, (1, 3)), (EIGHT, (1, 3)))
        self.is_read(read_machine, machine_text(RING, (0,)), (RING, (0,)))

    def test_wrong_words(self):
        self.all_wrong(read_machine, (
            "^", "  ^", "^x", "^5", "^\nmachine", "^Machine 2", "^machines 2", "machine2^x",
            "machine^", "machine ^", "machine ^0", "machine ^9", "machine ^02", "machine ^10", "machine ^two",
            "machine ^-1", "machine ^\n", "machine ^+2", "machine 2^", "machine 2 ^2", "machine 2 ^late",
            "machine 2\n^", "machine 2\n^shows 0 1", "machine 2\n^\nlate", "machine 2\n^early 0 0", "machine 2\n^0 1",
            "machine 2\nlate^", "machine 2\nlate 0^", "machine 2\nlate ^\n", "machine 2\nlate 0 ^2",
            "machine 2\nlate 0 ^00", "machine 2\nlate 0 ^x", "machine 2\nlate 0 1 ^1", "machine 2\nlate 0 1^",
            "machine 2\nlate 0 1 ^shows", "machine 2\nlate 0 1\n^", "machine 2\nlate 0 1\n^show 0 0",
            "machine 2\nlate 0 1\n^\nshows 0 0", "machine 2\nlate 0 1\nshows^", "machine 2\nlate 0 1\nshows 0^",
            "machine 2\nlate 0 1\nshows 0 ^100", "machine 2\nlate 0 1\nshows ^01 0", "machine 2\nlate 0 1\nshows 0 0 ^0",
            "machine 2\nlate 0 1\nshows 0 0^\n", "machine 2\nlate 0 1\nshows 0 0 ^late", "machine 2\nlate 0 1\nshows 0^.5",
            "machine 2^\r\nlate 0 1", "machine^\t2", "machine 2\nlate 0^,1", "machine ^99999999999999999999", "^_",
        ))
        four = "machine 1\n" + "late 0\n" * 4
        self.is_just(read_machine(four + "shows 5"), ((((0,),) * 4, (5,)), (0, 1, 2, 3)))
        self.wrong_at(read_machine, four + "^late 0")
        self.wrong_at(read_machine, four + "^prompt 0\nshows 5")
        self.wrong_at(read_machine, four + "^")

    def test_numbers_of_many_figures(self):
        for many in (7, 5000, 9990):
            self.refuses(InvalidText, 8, read_machine, "machine " + "1" * many)
            self.refuses(InvalidText, 8, read_machine, "machine " + "0" * many)

    def test_no_string(self):
        for value in NO_STRINGS:
            self.refuses(InvalidText, -1, read_machine, value)

    def test_wrong_arguments(self):
        self.refuses(InvalidMachine, -1, machine_text, None, None)
        self.refuses(InvalidLate, 0, machine_text, VALVE, (2,))


class StoryTextTest(TextCase):
    def test_examples(self):
        self.is_just(story_text(VALVE, (0,), ((20, 1), (30, 0))), "at 20 kind 1\nat 30 kind 0")
        self.is_just(story_text(VALVE, (0,), ()), "")
        self.is_just(read_story(VALVE, (0,), ""), ())
        self.is_just(read_story(VALVE, (0,), "   "), ())
        self.is_just(read_story(VALVE, (0,), "at20kind1\nat10kind0"), ((20, 1), (10, 0)))
        self.is_just(read_story(VALVE, (0,), "at 0 kind 1\nat 999999 kind 0"), ((0, 1), (999999, 0)))

    def test_there_and_back(self):
        chance = Chance(81)
        for machine in mixed_machines(40, 81):
            late = chance.lot(len(machine[0]))
            story = chance.story(machine, late, 7, 30)
            text = story_text(machine, late, story)
            self.is_read(lambda told: read_story(machine, late, told), text, story)
            self.is_just(read_story(as_lists(machine), list(late), text), story)

    def test_wrong_words(self):
        self.all_wrong(lambda text: read_story(VALVE, (0,), text), (
            "^\n", "^kind 0", "^5", "at 5 ^x", "at^", "at ^-1", "at ^05", "at ^1000000", "at ^kind", "at 5^",
            "at 5 ^5", "at 5 ^kin", "at 5 kind^", "at 5 kind ^2", "at 5 kind ^00", "at 5 kind ^\n",
            "at 5 kind 0 ^0", "at 5 kind 0 ^at 6", "at 5 kind 0\n^", "at 5 kind 0\n^\nat 6", "at 5 kind 0\n ^",
            "at 5 kind 0\nat ^5 kind 0", "at 5 kind 0\nat 4 kind ^1", "at 5 kind 0\nat 4 kind ^2", "at 5 kind 0\nat 4^",
            "at 5 kind 0\nat 3 kind 0\nat ^3", "at 5 kind 0\nat 3 kind 0\nat 4 kind ^1", "at 5 kind 0 ^;",
            "at 999999 kind 1\nat 0 kind ^1", "at 999999 kind 1\n^", "^At 5 kind 0", "at 5 kind 0^x",
        ))

    def test_no_late_kinds(self):
        # A moment below the greatest fits no kind, and behind the greatest of all nothing comes.
        read = lambda text: read_story(VALVE, (), text)
        self.is_just(read("at 5 kind 0\nat 6 kind 1"), ((5, 0), (6, 1)))
        self.is_just(read("at 5 kind 0\nat 999999 kind 1"), ((5, 0), (999999, 1)))
        self.all_wrong(read, (
            "at 5 kind 0\nat ^4 kind 0", "at 5 kind 0\nat ^5 kind 0", "at 5 kind 0\nat ^4",
            "at 999999 kind 0^\nat 4 kind 0", "at 999999 kind 0^\n", "at 5 kind 0\nat 999999 kind 1^\n",
            "at 5 kind 0\nat ^0", "at 999998 kind 0\n^",
        ))
        self.is_just(read_story(VALVE, (0, 1), "at 999999 kind 0\nat 4 kind 1"), ((999999, 0), (4, 1)))

    def test_many_news(self):
        story = tuple((moment, moment % 2) for moment in range(400))
        text = story_text(VALVE, (0,), story)
        self.is_just(read_story(VALVE, (0,), text), story)
        self.wrong_at(lambda told: read_story(VALVE, (0,), told), text + "^\nat 500 kind 0")
        self.wrong_at(lambda told: read_story(VALVE, (0,), told), text + "^\n")
        self.wrong_at(lambda told: read_story(VALVE, (0,), told), text + " ^at 500 kind 0")
        self.refuses(InvalidStory, -1, story_text, VALVE, (0,), (*story, (400, 0)))

    def test_order_of_errors(self):
        for value in NO_STRINGS:
            self.refuses(InvalidText, -1, read_story, VALVE, (0,), value)
            self.refuses(InvalidLate, 0, read_story, VALVE, (2,), value)
            self.refuses(InvalidMachine, -1, read_story, None, (2,), value)
        self.refuses(InvalidStory, 0, story_text, VALVE, (), (5,))


class TwinTextTest(TextCase):
    def test_examples(self):
        self.is_just(twin_text(ONE, NO_RULES), "twin 1 marks 0\nbegins 0\nshows 0")
        self.is_just(twin_text(VALVE, LOST), "twin 2 marks 0\nbegins 0\nshows 0 1\nword 0 marks 0 to 1 to 0")
        self.is_just(
            twin_text(VALVE, CLOSING),
            "twin 2 marks 1\nbegins 0\nshows 0 1\n"
            "word 0 marks 0 to 1 to 0 keeps 0\n"
            "word 0 marks 1 to 0 keeps 1 to 0 keeps 1 to 1 keeps 0 to 0 keeps 1\n"
            "word 1 marks 0 to 0 to 0 keeps 0\n"
            "word 1 marks 1 to 1 keeps 1 to 1 keeps 1 to 0 keeps 0 to 0 keeps 1",
        )
        self.is_just(twin_text(as_lists(VALVE), as_lists(CLOSING)), twin_text(VALVE, CLOSING))

    def test_there_and_back(self):
        chance = Chance(82)
        for words, most, kinds in ((1, 0, 1), (2, 1, 2), (3, 2, 1), (2, 6, 4), (60, 1, 2), (5, 3, 3)):
            machine = ((EIGHT[0][0],) * kinds, EIGHT[1])
            for _ in range(4):
                twin = emptied(full_table(words, most, kinds, chance), chance)
                text = twin_text(machine, twin)
                self.is_just(read_twin(machine, text), twin)
                self.is_just(read_twin(machine, with_more_blanks(text)), twin)
        for machine, twin in ((VALVE, CLOSING), (VALVE, LOST), (ONE, NO_RULES)):
            self.is_read(lambda told: read_twin(machine, told), twin_text(machine, twin), twin)

    def test_lines_in_another_order(self):
        chance = Chance(83)
        for _ in range(20):
            twin = emptied(full_table(4, 2, 2, chance), chance)
            lines = twin_text(VALVE, twin).split("\n")
            mixed = sorted(lines[3:], key=lambda line: chance.below(100))
            self.is_just(read_twin(VALVE, "\n".join(lines[:3] + mixed)), twin)
            self.is_just(read_twin(VALVE, "\n".join(lines[:3] + lines[:2:-1])), twin)

    def test_wrong_heads(self):
        self.all_wrong(lambda text: read_twin(ONE, text), (
            "^", "^word", "twin^", "twin ^0", "twin ^61", "twin ^01", "twin ^\n", "twin 2^", "twin 2 ^mark",
            "twin 2 marks^", "twin 2 marks ^7", "twin 2 marks ^00", "twin 2 marks 1^", "twin 2 marks 1 ^begins",
            "twin 2 marks 1\n^", "twin 2 marks 1\n^shows", "twin 2 marks 1\nbegins^", "twin 2 marks 1\nbegins ^2",
            "twin 2 marks 1\nbegins 1^", "twin 2 marks 1\nbegins 1 ^shows", "twin 2 marks 1\nbegins 1\n^word",
            "twin 2 marks 1\nbegins 1\nshows^", "twin 2 marks 1\nbegins 1\nshows 5^",
            "twin 2 marks 1\nbegins 1\nshows 5 ^100", "twin 2 marks 1\nbegins 1\nshows 5 ^\n",
            "twin 2 marks 1\nbegins 1\nshows 5 6 ^7", "twin 2 marks 1\nbegins 1\nshows 5 6 ^word",
            "twin 2 marks 1\nbegins 1\nshows 5 6\n^", "twin 2 marks 1\nbegins 1\nshows 5 6\n^\n",
            "twin 2 marks 1\nbegins 1\nshows 5 6\n^to 1", "twin 2 marks 1\nbegins 1\nshows 5 6 ^.",
        ))
        self.is_just(read_twin(ONE, "twin 2 marks 1\nbegins 1\nshows 5 6"), (1, (((), ()), ((), ())), (5, 6)))

    def test_wrong_rules(self):
        head = "twin 2 marks 1\nbegins 1\nshows 5 6\n"
        self.all_wrong(lambda text: read_twin(ONE, text), [head + line for line in (
            "word^", "word ^2", "word ^00", "word ^marks", "word 1^", "word 1 ^to", "word 1 marks^", "word 1 marks ^2",
            "word 1 marks ^to", "word 1 marks 0^", "word 1 marks 0 ^keeps", "word 1 marks 0 to^", "word 1 marks 0 to ^2",
            "word 1 marks 0 to ^keeps", "word 1 marks 0 to 1 ^1", "word 1 marks 0 to 1 ^to 1",
            "word 1 marks 0 to 1 keeps^", "word 1 marks 0 to 1 keeps ^1", "word 1 marks 0 to 1 keeps ^\n",
            "word 1 marks 0 to 1 keeps ^to", "word 1 marks 0 to 1 keeps 0 ^0", "word 1 marks 0 to 1 keeps 0 ^1",
            "word 1 marks 0 to 1 keeps 0 ^keeps", "word 1 marks 0 to 1 keeps 0 ^to", "word 1 marks 0 to 1 ^word",
            "word 1 marks 1 to 1^", "word 1 marks 1 to 1 ^\n", "word 1 marks 1 to 1 keeps 1^",
            "word 1 marks 1 to 1 keeps 0 ^1 to 1", "word 1 marks 1 to 1 keeps ^2", "word 1 marks 1 to 1 keeps 1 ^\nword",
            "word 1 marks 1 to 1 to 0 ^to 1", "word 1 marks 1 to 1 to 0 keeps ^01", "word 1 marks 1 to 1 to 0\n^",
            "word 1 marks 1 to 1 to 0\nword 1 marks ^1", "word 1 marks 1 to 1 to 0\nword 0 marks 0^",
            "word 1 marks 1 to 1 to 0\nword 1 marks 0 to 0\nword ^1", "word 1 marks 1 to 1 to 0 ^word",
            "word 1 marks 1 to 1 to 0\nword 1 marks 0 to 0\nword 0 marks 0 to 0\nword 0 marks ^0",
            "word 1 marks 1 to 1 to 0\nword 1 marks 0 to 0\nword 0 marks 0 to 0\nword 0 marks 1 to 0 to 1^\n",
        )])

    def test_kept_ones(self):
        head = "twin 1 marks 2\nbegins 0\nshows 0\nword 0 marks 2 "
        read = lambda text: read_twin(ONE, text)
        self.is_just(
            read(head + "to 0 keeps 0 1 to 0 keeps 2 to 0 keeps 1 2")[1][0][2],
            (((0, (0, 1)),), ((0, (2,)),), ((0, (1, 2)),)),
        )
        self.all_wrong(read, [head + line for line in (
            "to 0 keeps 0 1 ^2 to 0", "to 0 keeps 1 ^0", "to 0 keeps 1 ^1", "to 0 keeps ^3", "to 0 keeps 0 ^3",
            "to 0 keeps 2 ^2", "to 0 keeps 0 ^02", "to 0 to 0^", "to 0 to 0 ^\n", "to 0 to 0 to 0 keeps 2 ^3",
        )])
        # Without marks nothing is kept.
        self.wrong_at(read, "twin 1 marks 0\nbegins 0\nshows 0\nword 0 marks 0 to 0 ^keeps 0")

    def test_kinds_of_the_machine(self):
        head = "twin 1 marks 0\nbegins 0\nshows 0\nword 0 marks 0 "
        self.is_just(read_twin(VALVE, head + "to 0 to 0")[1], (((((0, ()), (0, ())),),),))
        self.wrong_at(lambda text: read_twin(VALVE, text), head + "to 0^")
        self.wrong_at(lambda text: read_twin(VALVE, text), head + "to 0 to 0 ^to 0")
        self.wrong_at(lambda text: read_twin(ONE, text), head + "to 0 ^to 0")

    def test_order_of_errors(self):
        for value in NO_STRINGS:
            self.refuses(InvalidText, -1, read_twin, VALVE, value)
            self.refuses(InvalidMachine, 0, read_twin, (((1,),), (0,)), value)
        self.refuses(InvalidTwin, 0, twin_text, ONE, CLOSING)
        self.refuses(InvalidMachine, -1, twin_text, None, None)
