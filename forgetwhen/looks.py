"""Looks: papers kept with what was asked; and case files, which hold all papers of one machine."""

from forgetwhen.checks import is_row, is_row_of, is_tuple_of
from forgetwhen.counts import counts_hold, counts_paper
from forgetwhen.court import court_holds, court_paper
from forgetwhen.deceivers import deceiving_tests, judge_twin, judged_holds, need_marks, tests_hold
from forgetwhen.errors import InvalidSize, InvalidTwin, Refused, TwinError
from forgetwhen.fewest import least_twin
from forgetwhen.least import alike_holds, alike_paper, need_least
from forgetwhen.machines import need_late
from forgetwhen.needed import need_holds, need_paper
from forgetwhen.tables import need_twin
from forgetwhen.twins import rows_hold, rows_paper
from forgetwhen.walkers import walkers_hold, walkers_paper
from forgetwhen.ways import marks_hold, marks_paper


def functions_of(word):
    """(what makes the paper, what looks at it, how many things are asked) for any value, None if it is no word."""
    told = {
        "alike": (alike_paper, alike_holds, 2),
        "needed": (need_paper, need_holds, 4),
        "rows": (rows_paper, rows_hold, 4),
        "marks": (marks_paper, marks_hold, 2),
        "counts": (counts_paper, counts_hold, 2),
        "tests": (deceiving_tests, tests_hold, 3),
        "twin": (judge_twin, judged_holds, 3),
        "court": (court_paper, court_holds, 2),
        "walkers": (walkers_paper, walkers_hold, 2),
    }
    return told.get(word) if isinstance(word, str) else None


def has_lists(value):
    """Whether any value is a list, or has one at any depth."""
    if isinstance(value, list):
        return True
    return isinstance(value, tuple) and any(has_lists(part) for part in value)


def in_tuples(value):
    """Any value with tuples for lists, at any depth."""
    if not is_row(value):
        return value
    return tuple(in_tuples(part) for part in value)


def look_holds(value):
    """Whether any value is a look whose paper holds."""
    if not is_tuple_of(value, 3) or has_lists(value):
        return False
    word, question, paper = value
    functions = functions_of(word)
    if functions is None or not is_tuple_of(question, functions[2]):
        return False
    holds = functions[1]
    try:
        return holds(*question, paper)
    except TwinError:
        return False


def make_look(word, question):
    """The look with the paper that is made for a question."""
    functions = functions_of(word)
    if functions is None:
        raise Refused("word")
    if not is_row_of(question, functions[2]):
        raise Refused("question")
    question = in_tuples(question)
    makes = functions[0]
    paper = makes(*question)
    if paper is None:
        raise Refused("none")
    return (word, question, paper)


def wrong_looks(values):
    """The places of those values that are no looks that hold, ascending."""
    if not is_row(values):
        raise Refused("looks")
    return tuple(place for place, value in enumerate(values) if not look_holds(value))


def need_case(machine, late, marks):
    machine = need_least(machine)
    late = need_late(machine, late)
    return machine, late, need_marks(marks)


def case_file(machine, late, marks):
    """All papers that tell that a machine is level, or that it is not."""
    machine, late, marks = need_case(machine, late, marks)
    told = marks_paper(machine, late)
    court = court_paper(machine, late)
    if told[0] == "level":
        twin = least_twin(machine, late)
        return ("level", told, court, twin, judge_twin(machine, late, twin))
    return ("grows", told, court, walkers_paper(machine, late), deceiving_tests(machine, late, marks))


def case_holds(machine, late, marks, value):
    """Whether any value is such a file, and all its papers hold."""
    machine, late, marks = need_case(machine, late, marks)
    if not is_tuple_of(value, 5):
        return False
    word, told, court, fourth, fifth = value
    if word not in ("level", "grows") or not marks_hold(machine, late, told) or told[0] != word:
        return False
    try:
        if not court_holds(machine, late, court) or (court[0] == "level") != (word == "level"):
            return False
    except InvalidSize:
        return False
    if word == "level":
        return is_right_twin(machine, late, told[1], fourth, fifth)
    return walkers_hold(machine, late, fourth) and tests_hold(machine, late, marks, fifth)


def is_right_twin(machine, late, marks, twin, verdict):
    """Whether any values are a table in tuples, of so many marks, and a paper that tells that it is right."""
    try:
        if need_twin(machine, twin) != twin or len(twin[1][0]) - 1 != marks:
            return False
    except InvalidTwin:
        return False
    return judged_holds(machine, late, twin, verdict) and verdict[0] == "right"
