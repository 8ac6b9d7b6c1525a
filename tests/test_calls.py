"""Promise [2]: the order of errors, lists and tuples, names of parameters, arguments left as they were."""

import copy
import importlib

from forgetwhen import errors
from forgetwhen.looks import case_file
from tests.support import LAST, RING, VALVE, Case, as_lists, has_list
from tests.test_strikes import keeps_last
from tests.test_tables import CLOSING

# Each argument: (name, a right value, a wrong one, its error, what this keeps). A value that may be anything has
# no wrong one; PAPER says that lists may not stand for its tuples.
PAPER = "paper"
LEVEL = (((1, 1), (0, 0)), (0, 1))
SWAP = ("swap", (0, 1, 0), (), 0, 1, ((0, 0),))
KEEPS_LAST = keeps_last(2, 2)
TESTS = ((1,), ((0, ("needed", ((),), 0, ((),), ())),))


def machine(value=VALVE, name="machine"):
    return (name, value, (((0,), (1,)), (100,)), errors.InvalidMachine, 1)


def no_least(value=VALVE):
    return ("machine", value, (((1, 0), (0, 0)), (5, 5)), errors.InvalidMachine, -1)


def late(value=(0, 1)):
    return ("late", value, (0, 0), errors.InvalidLate, 1)


def word(value=(1, 0, 1), name="word"):
    return (name, value, (0, 9), errors.InvalidWord, 1)


def one_map(name="one", value=(1, 0)):
    return (name, value, (0, True), errors.InvalidMap, 1)


def story(value=((5, 1), (3, 0), (9, 1))):
    return ("story", value, ((1, 0), (1, 0)), errors.InvalidStory, 1)


def moment(name="moment", value=4):
    return (name, value, 10 ** 6, errors.InvalidMoment, -1)


def size(name, value, told=None):
    return (name, value, True, errors.InvalidSize, told or name)


def index(name="number", value=0):
    return (name, value, 10 ** 9, errors.InvalidIndex, -1)


def given(value, wrong, error, told):
    return ("value", value, wrong, error, told)


def anything(value):
    return ("value", value, PAPER, None, None)


def held_paper(value, wrong=()):
    """A paper that must hold."""
    return ("value", value, wrong, errors.InvalidPaper, -1)


def place(value=0):
    return ("place", value, 10 ** 9, errors.InvalidIndex, -1)


def twin(value=CLOSING):
    return ("twin", value, (0, ((),), (0,)), errors.InvalidTwin, 0)


def text(value):
    return ("text", value, 7, errors.InvalidText, -1)


def stirred(value=((1, 0), (0, 1))):
    return ("stirred", value, ((1, 0), (0, 2)), errors.InvalidWord, 1)


def row(name="row", value=(((0, 1), (1, 0)), (1,))):
    return (name, value, (((0, 1), (1, 2)), (1,)), errors.InvalidItems, -1)


def told_row(name="told_row", value=((((0, 1), (1, 0)), (1,)), (4,))):
    return (name, value, ((((0, 1), (1, 0)), (1,)), (4, 5)), errors.InvalidItems, -1)


def marks(value=0):
    return ("marks", value, 13, errors.InvalidMarks, -1)


def question(value=("ahead", (0, 1, 0), (1, 0, 1))):
    return ("question", value, ("ahead", (0, 1, 0), (1, 0, 2)), errors.InvalidAsked, 2)


def walk(value):
    return ("paper", value, ("swap",), errors.InvalidPaper, -1)


def lateness(value=(None, 1)):
    return ("lateness", value, (13, 13), errors.InvalidLateness, 0)


def gone(value=(0,)):
    return ("gone", value, (0, 0), errors.InvalidLot, 1)


def deeds(value=((5, 0, 0), (7, 1, 0), (5, 0, 1))):
    return ("story", value, ((5, 0, 0), (5, 0, 2)), errors.InvalidGone, 1)


def panel(value=((((1, 0), (0, 0))), ((0, 1), (0, 0)))):
    return ("panel", value, (((1, 0), (0, 0)), ((0, 1), (0, 100))), errors.InvalidPanel, 1)


def two_states(value=(0, 1)):
    return [("one", value[0], -1, errors.InvalidState, 0), ("other", value[1], True, errors.InvalidState, 1)]


def reader(value=((((0, 0), (1, 1)),), (0, 1))):
    return ("reader", value, ((((0, 0), (1, 2)),), (0, 1)), errors.InvalidPlant, 0)


def strikes(value=KEEPS_LAST[1]):
    return ("strikes", value, ((((((0, ()),) * 2,)), (((0, (1,)),) * 2,) * 3),), errors.InvalidTwin, 0)


def table(value=KEEPS_LAST[0]):
    return ("twin", value, (0, ((),), (0,)), errors.InvalidTwin, 0)


def is_paper(argument):
    """Whether lists may not stand for its tuples."""
    return argument[2] == PAPER or argument[3] is errors.InvalidPaper


CALLS = {
    "machines": {
        "need_machine": [given(VALVE, 3, errors.InvalidMachine, -1)],
        "machine_sizes": [machine()],
        "need_kind": [machine(), given(1, 2, errors.InvalidKind, -1)],
        "need_state": [machine(), given(1, 2, errors.InvalidState, -1)],
        "need_late": [machine(), given((1, 0), (2,), errors.InvalidLate, 0)],
        "need_word": [machine(), given((1, 0), (0, 2), errors.InvalidWord, 1)],
        "need_map": [machine(), given((1, 0), (0, 2), errors.InvalidMap, 1)],
        "same_map": [machine()],
        "map_then": [machine(), one_map(), one_map("other")],
        "word_map": [machine(), word()],
        "word_states": [machine(), word()],
        "word_readings": [machine(), word()],
        "reach_words": [machine()],
    },
    "least": {
        "rounds": [machine(RING)],
        "parting_word": [
            machine(RING), ("one", 0, 4, errors.InvalidState, 0), ("other", 2, -1, errors.InvalidState, 1),
        ],
        "least_names": [machine(RING)],
        "least_machine": [machine(RING)],
        "is_least": [machine(RING)],
        "alike_paper": [machine(name="one"), machine(RING, name="other")],
        "alike_holds": [machine(name="one"), machine(name="other"), anything(("same", ((0, 0), (1, 1))))],
        "machine_count": [size("states", 2), size("kinds", 1), size("shown", 2)],
        "nth_machine": [size("states", 2), size("kinds", 1), size("shown", 2), index(value=7)],
        "machine_number": [machine(), size("shown", 3)],
    },
    "stories": {
        "need_story": [machine(), late(), given(((5, 1), (3, 0)), ((5, 2),), errors.InvalidStory, 0)],
        "need_moment": [given(3, -3, errors.InvalidMoment, -1)],
        "record": [machine(), late(), story()],
        "story_states": [machine(), late(), story()],
        "story_readings": [machine(), late(), story()],
        "state_at": [machine(), late(), story(), moment()],
        "cut_maps": [machine(), late(), story(), moment()],
        "late_by": [machine(), late(), story()],
        "story_places": [machine(), late(), story()],
        "places_story": [machine(), late(), ("places", ((0, 1), (0, 0)), ((0, 1), (2, 0)), errors.InvalidPlaces, 1)],
        "plain_story": [machine(), late(), story()],
        "story_count": [machine(), late(), size("many", 3, "news")],
        "nth_story": [machine(), late(), size("many", 3, "news"), index(value=9)],
        "story_number": [machine(), late(), story()],
    },
    "maps": {
        "all_maps": [no_least()],
        "map_number": [no_least(), one_map()],
        "idempotents": [no_least()],
        "power_ring": [no_least(), one_map()],
        "still_power": [no_least(), one_map()],
        "undone_at": [no_least(), index()],
    },
    "needed": {
        "word_sets": [machine(), late(), word()],
        "word_relations": [machine(), late(), word()],
        "needed_news": [machine(), late(), word()],
        "need_paper": [machine(), late(), word(), place(2)],
        "need_holds": [machine(), late(), word((1,)), place(), anything(("needed", ((),), 0, ((),), ()))],
        "needed_moments": [machine(), late(), story()],
        "two_stories": [
            machine(), late(), story(((20, 1),)), place(), held_paper(("needed", ((),), 0, ((),), ())),
        ],
    },
    "tables": {
        "need_twin": [machine(), given(CLOSING, (0, (), ()), errors.InvalidTwin, -1)],
        "twin_sizes": [machine(), twin()],
        "twin_stands": [machine(), twin(), late(), story()],
        "twin_readings": [machine(), twin(), late(), story()],
        "first_wrong": [machine(), twin(), late(), story()],
    },
    "timeline": {
        "least_news": [size("depth", 7)],
    },
    "court": {
        "stirred_maps": [no_least(), late(), stirred()],
        "stirred_turns": [no_least(), late(), index(value=2)],
        "deep_turns": [no_least(), late(), index(value=2)],
        "court_paper": [no_least(), late()],
        "court_holds": [no_least(), late((0,)), anything(("level", ((0, 0, 0),)))],
        "loops_forget": [no_least(), late()],
        "plain_forget": [no_least(), late()],
    },
    "texts": {
        "machine_text": [machine(), late()],
        "story_text": [machine(), late(), story()],
        "twin_text": [machine(), twin()],
        "read_machine": [text("machine 2\nlate 1 0\nprompt 0 0\nshows 0 1")],
        "read_story": [machine(), late(), text("at 5 kind 1\nat 3 kind 0")],
        "read_twin": [machine(), text("twin 1 marks 0\nbegins 0\nshows 5\nword 0 marks 0 to 0 to 0")],
    },
    "twins": {
        "first_row": [machine()],
        "record_row": [machine(), late(), word()],
        "row_needed": [machine(), late(), row()],
        "row_step": [machine(), late(), row(), place(), ("kind", 1, 2, errors.InvalidKind, -1)],
        "row_state": [machine(), row()],
        "row_reading": [machine(), row()],
        "row_form": [machine(), late(), row()],
        "rows_paper": [machine(), late(), row("one"), row("other", (((0, 0), (1, 0)), (1,)))],
        "rows_hold": [machine(), late((0,)), row("one"), row("other"), anything(("apart", ((), ()), ()))],
    },
    "web": {
        "forward_sets": [machine(), late()],
        "set_words": [machine(), late()],
        "backward_relations": [machine(), late()],
        "relation_words": [machine(), late()],
        "web": [machine(), late()],
        "web_way": [machine(), late(), word()],
        "standing_steps": [machine(), late()],
    },
    "fewest": {
        "met_rows": [machine(), late((0,))],
        "fewest_words": [machine(), late((0,))],
        "least_twin": [machine(), late((0,))],
    },
    "late": {
        "late_fault": [no_least()],
        "late_fault_holds": [no_least(), anything(("bound", (0,), (0,), (1,)))],
        "most_kept": [size("states", 5)],
        "steep_machine": [size("states", 5)],
        "steep_word": [size("states", 5)],
    },
    "letters": {
        "own_row": [machine(), ("news", ((5, 1), (3, 0)), ((1, 0), (1, 0)), errors.InvalidStory, 1)],
        "join_rows": [machine(), told_row("one"), told_row("other", ((((0, 0), (1, 0)), (0,)), (7,)))],
        "whole_reading": [machine(), told_row()],
        "parting_rooms": [machine(), word((0, 1, 0)), place(2)],
        "need_letter": [
            machine(), size("many", 1, "rooms"),
            given(((3, (((0, 1), (1, 0)), (1,)), (4,)),), ((3, (), ()),), errors.InvalidLetter, 0),
        ],
    },
    "walkers": {
        "walkers_paper": [no_least(), late()],
        "walkers_hold": [no_least(), late(), anything(SWAP)],
        "court_of_walk": [no_least(), late(), walk(SWAP)],
        "walk_of_court": [no_least(), late(), walk(("amid", ((0, 0), (1, 1), (0, 0))))],
        "rising_word": [no_least(), late(), walk(SWAP), size("many", 3)],
    },
    "ways": {
        "marks_by": [machine(), late(), size("many", 3)],
        "widest_word": [machine(), late(), size("many", 3)],
        "marks_needed": [machine(), late()],
        "growth": [machine(), late()],
        "marks_paper": [machine(), late()],
        "marks_hold": [machine(), late((0,)), anything(("level", 1, ((1, 0),), (1,)))],
    },
    "counts": {
        "counts_paper": [machine(), late()],
        "counts_hold": [machine(), late((0,)), anything(((0, 1), 1, 0))],
        "marks_for": [machine(), late(), size("many", 10 ** 9)],
    },
    "deceivers": {
        "deceiving_word": [machine(), late(), marks()],
        "deceiving_tests": [machine(), late(), marks(2)],
        "tests_hold": [machine(), late((0,)), marks(), anything(TESTS)],
        "test_stories": [machine(), late((0,)), marks(), held_paper(TESTS)],
        "deceive": [machine(), late(), twin()],
        "test_bound": [machine(), late()],
        "judge_twin": [machine(), late(), twin()],
        "judged_holds": [machine(), late(), twin(), anything(("wrong", ((3, 0), (4, 0), (5, 0))))],
    },
    "lateness": {
        "need_lateness": [machine(), given((None, 3), (None, True), errors.InvalidLateness, 1)],
        "window": [machine(), lateness()],
        "gap_kinds": [machine(), lateness(), ("behind", 2, None, None, None)],
        "need_told": [machine(), lateness(), given(((5, 0), (3, 1)), ((5, 0), (5, 0)), errors.InvalidStory, 1)],
        "told_sets": [machine(), lateness(), word()],
        "told_relations": [machine(), lateness(), word()],
        "told_needed": [machine(), lateness(), word()],
        "told_marks": [machine(), lateness()],
    },
    "past": {
        "past_needed": [machine(), late(), word()],
        "past_moments": [machine(), late(), story()],
        "past_paper": [machine(), late(), word(), place(2)],
        "past_holds": [machine(), late(), word((1,)), place(), anything(("moves", ((0,),)))],
        "past_marks": [machine(), late()],
        "past_marks_paper": [machine(), late()],
        "past_marks_hold": [machine(), late(), anything(("grows", (), (1,)))],
    },
    "withdrawn": {
        "need_gone": [machine(), given((1, 0), (1, 1), errors.InvalidLot, 1)],
        "need_withdrawn": [machine(), late(), gone(), given(((5, 0, 0), (5, 0, 1)), 3, errors.InvalidGone, -1)],
        "standing_news": [machine(), late(), gone(), deeds()],
        "withdrawn_readings": [machine(), late(), gone(), deeds()],
        "back_word": [machine(), ("kind", 0, 2, errors.InvalidKind, -1)],
        "withdrawn_marks": [machine(), late((0,)), gone()],
    },
    "panels": {
        "need_panel": [given((((1, 0),), ((0, 1), (5, 5))), (((1, 0),), ((0, 1), (5,))), errors.InvalidPanel, 1)],
        "instrument": [panel(), index()],
        "panel_machine": [panel(), ("lot", (0, 1), (1, 0), errors.InvalidLot, 1)],
        "panel_needed": [panel(), late(), word()],
        "panel_marks": [panel(), late()],
        "best_lots": [panel(), late(), size("marks", 1)],
        "pair_news": [machine(), late(), *two_states()],
        "wild_ring": [machine(), late(), *two_states()],
        "ring_holds": [machine(), late(), *two_states(), anything(((), (0,), ()))],
        "wild_pairs": [machine(), late()],
        "shown_classes": [machine(), late()],
        "can_be_shown": [machine(), late()],
    },
    "plants": {
        "kinds_apart": [
            machine(name="one"), late(), machine(LEVEL, name="other"),
            ("late_other", (1, 0), (2,), errors.InvalidLate, 0),
        ],
        "kinds_shared": [machine(name="one"), machine(RING, name="other")],
        "relayed": [machine(name="one"), machine(RING, name="other"), ("begins", (3, 0), (3, 4), errors.InvalidState, 1)],
        "by_words": [machine(), late(), ("words", ((0, 1), ()), ((0,), (2,)), errors.InvalidLot, 1)],
        "need_reader": [given(((((0, 0), (1, 1)),), (0, 1)), ((), ()), errors.InvalidPlant, -1)],
        "read_by": [machine(name="plant"), late(), reader()],
        "setters": [size("values", 3)],
        "places_read": [reader(), word((0, 0))],
        "reader_places": [reader()],
    },
    "strikes": {
        "need_strikes": [
            machine(), gone((1, 0)), table(), given(KEEPS_LAST[1], ((),), errors.InvalidTwin, 0),
        ],
        "withdrawn_stands": [
            machine(), late(), gone((0, 1)), table(), strikes(), deeds(((5, 0, 0), (7, 1, 0), (5, 0, 1), (7, 1, 1))),
        ],
        "withdrawn_stories": [machine(LAST), late(), gone((0, 1)), table(), strikes()],
    },
    "prompt": {
        "late_lots": [machine()],
        "level_lots": [machine()],
        "growing_lots": [machine()],
        "prompt_lots": [machine()],
        "lots_within": [machine(), marks(1)],
        "easy_kinds": [machine()],
        "freedoms": [machine()],
        "bar_machine": [size("kinds", 3), ("lot", (0, 2), (2, 0), errors.InvalidLot, -1)],
        "bar_machines": [size("kinds", 3), ("lots", ((0, 2), (1,)), ((0,), (0, 1)), errors.InvalidLot, 1)],
        "shared_lots": [("machines", (VALVE, LAST), (VALVE, 3), errors.InvalidPlant, 1)],
    },
    "looks": {
        "look_holds": [anything(("marks", (LAST, ()), ("level", 0, ((0,), (0,)), ())))],
        "make_look": [
            ("word", "marks", "mark", errors.Refused, "word"),
            ("question", (VALVE, (0, 1)), (VALVE,), errors.Refused, "question"),
        ],
        "wrong_looks": [("values", (3, ()), 3, errors.Refused, "looks")],
        "case_file": [no_least(), late(), marks(2)],
        "case_holds": [no_least(), late((0,)), marks(1), anything(case_file(VALVE, (0,), 1))],
    },
    "ends": {
        "end_places": [no_least(), word()],
        "end_word": [no_least(), word()],
        "ends_apart": [no_least()],
        "question_answer": [size("kinds", 2), question(), word()],
        "question_machine": [size("kinds", 2), question(("ahead", (0, 0, 0), (1, 0, 1)))],
    },
}


def all_calls():
    for module, calls in CALLS.items():
        found = importlib.import_module(f"forgetwhen.{module}")
        for name, arguments in calls.items():
            yield getattr(found, name), arguments


class CallsTest(Case):
    def test_first_wrong_argument_tells(self):
        for call, arguments in all_calls():
            for at, (_, _, wrong, error, told) in enumerate(arguments):
                if error is None:
                    continue
                values = [argument[1] for argument in arguments[:at]] + [argument[2] for argument in arguments[at:]]
                with self.subTest(call=call.__name__, at=at):
                    self.refuses(error, told, call, *values)
                    named = {argument[0]: value for argument, value in zip(arguments, values)}
                    self.refuses(error, told, call, **named)

    def test_one_wrong_argument(self):
        for call, arguments in all_calls():
            for at, (_, _, wrong, error, told) in enumerate(arguments):
                if error is None:
                    continue
                values = [argument[1] for argument in arguments]
                values[at] = wrong
                with self.subTest(call=call.__name__, at=at):
                    self.refuses(error, told, call, *values)

    def test_equal_results(self):
        for call, arguments in all_calls():
            values = [argument[1] for argument in arguments]
            with self.subTest(call=call.__name__):
                result = call(*values)
                self.assertFalse(has_list(result))
                self.is_just(call(*values), result)
                self.is_just(call(**{argument[0]: argument[1] for argument in arguments}), result)
                lists = [value if is_paper(kind) else as_lists(value) for kind, value in zip(arguments, values)]
                kept = copy.deepcopy(lists)
                self.is_just(call(*lists), result)
                self.is_just(lists, kept)

    def test_wrong_lists_stay_as_they_were(self):
        for call, arguments in all_calls():
            for at, (_, _, wrong, error, _) in enumerate(arguments):
                if error is None:
                    continue
                values = [argument[1] if is_paper(argument) else as_lists(argument[1]) for argument in arguments]
                values[at] = as_lists(wrong)
                kept = copy.deepcopy(values)
                with self.assertRaises(error):
                    call(*values)
                self.is_just(values, kept)

    def test_bools_are_no_integers_in_machines(self):
        for call, arguments in all_calls():
            if arguments[0][0] == "machine":
                others = [argument[1] for argument in arguments[1:]]
                self.refuses(errors.InvalidMachine, 0, call, (((True, 0), (0, 0)), (0, 1)), *others)
                self.refuses(errors.InvalidMachine, 2, call, (((1, 0), (0, 0)), (False, 1)), *others)
