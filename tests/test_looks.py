"""Promise [55]: looks, which keep papers with what was asked, and case files."""

from forgetwhen.counts import counts_paper
from forgetwhen.court import court_paper, loops_forget
from forgetwhen.deceivers import deceiving_tests, judge_twin
from forgetwhen.errors import (
    InvalidIndex, InvalidLate, InvalidMachine, InvalidMarks, InvalidSize, InvalidTwin, InvalidWord, Refused, TwinError,
)
from forgetwhen.fewest import least_twin
from forgetwhen.least import alike_paper, least_machine
from forgetwhen.looks import case_file, case_holds, look_holds, make_look, wrong_looks
from forgetwhen.needed import need_paper
from forgetwhen.prompt import late_lots
from forgetwhen.twins import first_row, record_row, rows_paper
from forgetwhen.walkers import walkers_paper
from forgetwhen.ways import marks_needed, marks_paper
from tests.support import (
    LAST, LATCH, ODD_VALUES, VALVE, Case, Chance, as_lists, changed_papers, has_list, lots_of, mixed_machines,
)
from tests.test_tables import CLOSING

ONE = record_row(VALVE, (0,), (0, 1))
OTHER = record_row(VALVE, (0,), (1, 0))
FIVE = (((1, 2, 3, 4, 0), (1, 0, 2, 3, 4)), (0, 1, 2, 3, 4))

# For each word the question, and what makes the paper.
QUESTIONS = {
    "alike": (((VALVE, LATCH), alike_paper), ((VALVE, VALVE), alike_paper)),
    "needed": (((VALVE, (0, 1), (0, 1), 1), need_paper), ((VALVE, (0,), (0, 1), 0), need_paper)),
    "rows": (((VALVE, (0,), ONE, OTHER), rows_paper), ((VALVE, (0,), ONE, ONE), rows_paper)),
    "marks": (((VALVE, (0, 1)), marks_paper), ((VALVE, (0,)), marks_paper)),
    "counts": (((VALVE, (0, 1)), counts_paper), ((VALVE, (0,)), counts_paper)),
    "tests": (((VALVE, (0, 1), 1), deceiving_tests), ((VALVE, (0,), 0), deceiving_tests)),
    "twin": (((VALVE, (0,), CLOSING), judge_twin), ((VALVE, (0, 1), CLOSING), judge_twin)),
    "court": (((VALVE, (0,)), court_paper), ((VALVE, (0, 1)), court_paper)),
    "walkers": (((VALVE, (0, 1)), walkers_paper),),
}


def all_looks():
    return [
        (word, question, makes(*question)) for word, questions in QUESTIONS.items() for question, makes in questions
    ]


class MakeLookTest(Case):
    def test_each_word(self):
        for look in all_looks():
            self.assertFalse(has_list(look))
            self.is_just(make_look(look[0], look[1]), look)
            self.is_just(make_look(word=look[0], question=as_lists(look[1])), look)
            self.assertIs(look_holds(look), True)

    def test_lists_stay_as_they_were(self):
        question = [as_lists(VALVE), [0, 1]]
        look = make_look("marks", question)
        self.is_just((question, look[1]), ([as_lists(VALVE), [0, 1]], (VALVE, (0, 1))))
        question[1].append(5)
        self.is_just(look[1], (VALVE, (0, 1)))

    def test_refused(self):
        for word in ("", "mark", "Marks", "court ", "level", *ODD_VALUES):
            if word not in list(QUESTIONS):
                self.refuses(Refused, "word", make_look, word, 3)
        for word, questions in QUESTIONS.items():
            question = questions[0][0]
            for odd in (None, 3, "ab", (), question[:-1], (*question, 0), {0: 1, 1: 2}):
                self.refuses(Refused, "question", make_look, word, odd)
        self.refuses(Refused, "none", make_look, "tests", (VALVE, (0,), 1))
        self.refuses(Refused, "none", make_look, "walkers", (VALVE, (0,)))

    def test_errors_of_what_makes_it(self):
        self.refuses(InvalidMachine, -1, make_look, "alike", (3, 3))
        self.refuses(InvalidSize, "kinds", make_look, "alike", [VALVE, (((0,),), (0,))])
        self.refuses(InvalidWord, 1, make_look, "needed", (VALVE, (0,), [0, 9], 7))
        self.refuses(InvalidIndex, -1, make_look, "needed", (VALVE, (0,), [0, 1], 7))
        self.refuses(Refused, -1, make_look, "rows", (VALVE, (0,), ONE, first_row(VALVE)))
        self.refuses(InvalidLate, 0, make_look, "marks", (VALVE, (2,)))
        self.refuses(InvalidMarks, -1, make_look, "tests", (VALVE, (0,), 13))
        self.refuses(InvalidTwin, -1, make_look, "twin", (VALVE, (0,), ((), (), ())))
        self.refuses(InvalidMachine, -1, make_look, "court", ((((1, 0),), (5, 5)), ()))
        self.refuses(InvalidSize, "states", make_look, "walkers", (FIVE, ()))


class LookHoldsTest(Case):
    def test_changed_words_and_questions(self):
        for word, question, paper in all_looks():
            for other in (*QUESTIONS, "", None, 3, (), True):
                if other != word:
                    self.assertIs(look_holds((other, question, paper)), False)
            for at, part in enumerate(question):
                for odd in (None, True, -1, 99, "x", (), [], as_lists(part) if isinstance(part, tuple) else [part]):
                    if odd != part:
                        changed = (*question[:at], odd, *question[at + 1:])
                        look = (word, changed, paper)
                        held = look_holds(look)
                        self.assertIs(type(held), bool)
                        if has_list(look) or odd in (None, True, -1, 99, "x"):
                            self.assertIs(held, False, look)
            for odd in (question[:-1], (*question, 0), list(question), None, ()):
                self.assertIs(look_holds((word, odd, paper)), False)
            for odd in ((word, question), (word, question, paper, 0), [word, question, paper], (paper, question, word)):
                self.assertIs(look_holds(odd), False)

    def test_changed_papers(self):
        for word, question, paper in all_looks():
            if word in ("twin", "rows", "tests"):
                continue
            for value in changed_papers(paper, odd=(None, -1, 1, "x", [])):
                look = (word, question, value)
                held = look_holds(look)
                self.assertIs(type(held), bool)
                self.assertFalse(held and has_list(value), look)
        for word, question, paper in all_looks():
            lists = as_lists(paper)
            self.assertIs(look_holds((word, question, lists)), False)
            inner = tuple(as_lists(part) for part in paper)
            if has_list(inner):
                self.assertIs(look_holds((word, question, inner)), False)

    def test_papers_of_other_questions(self):
        for looks in zip(all_looks(), all_looks()[1:]):
            (word, question, _), (other, _, paper) = looks
            if word == other:
                self.assertIs(look_holds((word, question, paper)), False, looks)

    def test_any_value(self):
        for value in ODD_VALUES:
            self.assertIs(look_holds(value), False)
            for word, question, _ in all_looks():
                if not (word == "alike" and value == ("same", ())):
                    self.assertIs(look_holds((word, question, value)), False)


class WrongLooksTest(Case):
    def test_mixed_rows(self):
        looks = all_looks()
        self.is_just(wrong_looks(looks), ())
        self.is_just(wrong_looks(()), ())
        mixed = [3, looks[0], list(looks[1]), looks[2], ("marks", looks[3][1], looks[2][2]), None, looks[4], ()]
        self.is_just(wrong_looks(mixed), (0, 2, 4, 5, 7))
        self.is_just(wrong_looks(tuple(mixed)), (0, 2, 4, 5, 7))
        # A look is itself a row of three things that are none.
        self.is_just(wrong_looks(looks[0]), (0, 1, 2))

    def test_no_sequence(self):
        for value in (None, 3, True, "marks", {0: 1}, TwinError("x")):
            self.refuses(Refused, "looks", wrong_looks, value)
        for value in ODD_VALUES:
            if isinstance(value, (list, tuple)):
                self.is_just(wrong_looks(value), tuple(range(len(value))))
            else:
                self.refuses(Refused, "looks", wrong_looks, value)


def small_cases():
    """(least machine, late) of which there are case files."""
    machines = [VALVE, LAST, LATCH, (((0,),), (4,))]
    machines += [least_machine(machine) for machine in mixed_machines(40, 55, states=3, kinds=2, shown=3)]
    return [(machine, late) for machine in machines for late in lots_of(len(machine[0]))]


class CaseFileTest(Case):
    def test_files(self):
        words = {"level": 0, "grows": 0}
        for machine, late in small_cases():
            marks = (0, 1, 2)[words["grows"] % 3]
            file = case_file(machine, late, marks)
            self.assertFalse(has_list(file))
            self.assertIs(case_holds(machine, late, marks, file), True)
            words[file[0]] += 1
            level = marks_needed(machine, late) is not None
            self.assertEqual(level, file[0] == "level")
            self.assertEqual(level, loops_forget(machine, late))
            self.assertEqual(level, walkers_paper(machine, late) is None)
            first = (file[0], marks_paper(machine, late), court_paper(machine, late))
            if level:
                twin = least_twin(machine, late)
                self.is_just(file, (*first, twin, judge_twin(machine, late, twin)))
            else:
                more = (walkers_paper(machine, late), deceiving_tests(machine, late, marks))
                self.is_just(file, (*first, *more))
        self.assertGreater(min(words.values()), 7)

    def test_lists(self):
        self.is_just(case_file(as_lists(VALVE), [1, 0], 1), case_file(VALVE, (0, 1), 1))
        self.assertIs(case_holds(as_lists(VALVE), [1, 0], 1, case_file(VALVE, (0, 1), 1)), True)

    def test_papers_of_the_other_kind(self):
        level = case_file(VALVE, (0,), 1)
        grows = case_file(VALVE, (0, 1), 1)
        for late, own, other in (((0,), level, grows), ((0, 1), grows, level)):
            self.assertIs(case_holds(VALVE, late, 1, other), False)
            for at in range(5):
                self.assertIs(case_holds(VALVE, late, 1, (*own[:at], other[at], *own[at + 1:])), False)

    def test_changed_files(self):
        for machine, late, marks in ((LAST, (0, 1), 0), (VALVE, (0, 1), 0), (VALVE, (0,), 1)):
            file = case_file(machine, late, marks)
            for at in range(5):
                for odd in (None, True, 3, "level", "grows", (), [], (file[at],), file[:at]):
                    if odd != file[at]:
                        value = (*file[:at], odd, *file[at + 1:])
                        self.assertIs(case_holds(machine, late, marks, value), False, value)
                if isinstance(file[at], tuple):
                    for odd in (list(file[at]), as_lists(file[at]), file[at][:-1], (*file[at], 0)):
                        value = (*file[:at], odd, *file[at + 1:])
                        self.assertIs(case_holds(machine, late, marks, value), False, value)
            for value in (list(file), file[:4], (*file, 0), file[1:], (file,)):
                self.assertIs(case_holds(machine, late, marks, value), False)

    def test_other_papers_that_hold(self):
        _, told, court, twin, verdict = case_file(VALVE, (0,), 1)
        heights = tuple(tuple(height + 3 for height in row) for row in told[2])
        for other in (("level", 1, heights, (0, 0, 1, 0)), ("level", 1, told[2], (1, 1))):
            self.assertIs(case_holds(VALVE, (0,), 1, ("level", other, court, twin, verdict)), True)
        # Another right table of as many marks, and one of more marks.
        first, rules, shown = twin
        more = (first, (*rules, rules[0]), (*shown, shown[0]))
        judged = judge_twin(VALVE, (0,), more)
        self.assertIs(case_holds(VALVE, (0,), 1, ("level", told, court, more, judged)), True)
        wide = (first, tuple((*row, ()) for row in rules), shown)
        judged = judge_twin(VALVE, (0,), wide)
        self.assertEqual(judged[0], "right")
        self.assertIs(case_holds(VALVE, (0,), 1, ("level", told, court, wide, judged)), False)
        # A table that is wrong, with a story that shows it.
        wrong = (first, rules, shown[::-1])
        judged = judge_twin(VALVE, (0,), wrong)
        self.assertEqual(judged[0], "wrong")
        self.assertIs(case_holds(VALVE, (0,), 1, ("level", told, court, wrong, judged)), False)

    def test_marks_of_the_tests(self):
        for marks in range(13):
            file = case_file(VALVE, (0, 1), marks)
            self.assertEqual(len(file[4][1]), marks + 1)
            for other in (0, 1, 5, 12):
                self.assertIs(case_holds(VALVE, (0, 1), other, file), marks == other)
            self.is_just(case_file(LAST, (0, 1), marks), case_file(LAST, (0, 1), 0))

    def test_order_of_errors(self):
        no_least = (((1, 0), (0, 0)), (5, 5))
        for call, more in ((case_file, ()), (case_holds, (3,))):
            self.refuses(InvalidMachine, -1, call, 3, 3, 99, *more)
            self.refuses(InvalidMachine, 2, call, (((1, 0), (0, 0)), (0, 100)), 3, 99, *more)
            self.refuses(InvalidMachine, -1, call, no_least, 3, 99, *more)
            self.refuses(InvalidLate, 1, call, VALVE, (0, 0), 99, *more)
            for marks in (13, -1, True, None, "1", (1,)):
                self.refuses(InvalidMarks, -1, call, VALVE, (0, 1), marks, *more)

    def test_sizes(self):
        # More than 60 maps: no file, and no value is one.
        four = least_machine((((1, 2, 3, 0), (1, 0, 2, 3), (0, 0, 2, 3)), (0, 1, 2, 3)))
        for late in ((), (0,), (0, 1)):
            self.refuses(InvalidSize, "maps", case_file, four, late, 1)
            told = marks_paper(four, late)
            for value in (3, (told[0], told, ("level", ((0, 0, 0),)), CLOSING, ("right", ())), case_file(VALVE, (0,), 1)):
                self.assertIs(case_holds(four, late, 1, value), False)
        # More than 4 states.
        five = (((1, 2, 3, 4, 0), (0, 0, 0, 0, 0)), (0, 1, 2, 3, 4))
        self.assertEqual(least_machine(five), five)
        sizes = set()
        for late, most in late_lots(five):
            try:
                file = case_file(five, late, 0)
            except InvalidSize as error:
                sizes.add(error.word)
            else:
                self.assertEqual(file[0] == "level", most is not None)
        self.assertIn("states", sizes)

    def test_any_value(self):
        for value in ODD_VALUES:
            self.assertIs(case_holds(VALVE, (0,), 1, value), False)
            self.assertIs(case_holds(FIVE, (0,), 1, value), False)

    def test_greater_machines(self):
        chance = Chance(56)
        done = 0
        for _ in range(60):
            machine = least_machine(chance.machine(4, 1, 4))
            for late in lots_of(1):
                file = case_file(machine, late, 2)
                self.assertIs(case_holds(machine, late, 2, file), True)
                done += len(machine[1]) == 4
        self.assertGreater(done, 3)
