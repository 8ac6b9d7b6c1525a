"""The interface: every name is defined in its file, with its parameters."""

import importlib
import inspect
import unittest

FUNCTIONS = {
    "machines": {
        "need_machine": "value", "machine_sizes": "machine", "need_kind": "machine value",
        "need_state": "machine value", "need_late": "machine value", "need_word": "machine value",
        "need_map": "machine value", "same_map": "machine", "map_then": "machine one other",
        "word_map": "machine word", "word_states": "machine word", "word_readings": "machine word",
        "reach_words": "machine",
    },
    "least": {
        "rounds": "machine", "parting_word": "machine one other", "least_names": "machine",
        "least_machine": "machine", "is_least": "machine", "alike_paper": "one other",
        "alike_holds": "one other value", "machine_count": "states kinds shown",
        "nth_machine": "states kinds shown number", "machine_number": "machine shown",
    },
    "stories": {
        "need_story": "machine late value", "need_moment": "value", "record": "machine late story",
        "story_states": "machine late story", "story_readings": "machine late story",
        "state_at": "machine late story moment", "cut_maps": "machine late story moment",
        "late_by": "machine late story", "story_places": "machine late story",
        "places_story": "machine late places", "plain_story": "machine late story",
        "story_count": "machine late many", "nth_story": "machine late many number",
        "story_number": "machine late story",
    },
    "maps": {
        "all_maps": "machine", "map_number": "machine one", "idempotents": "machine", "power_ring": "machine one",
        "still_power": "machine one", "undone_at": "machine number",
    },
    "needed": {
        "word_sets": "machine late word", "word_relations": "machine late word", "needed_news": "machine late word",
        "need_paper": "machine late word place", "need_holds": "machine late word place value",
        "needed_moments": "machine late story", "two_stories": "machine late story place value",
    },
    "tables": {
        "need_twin": "machine value", "twin_sizes": "machine twin", "twin_stands": "machine twin late story",
        "twin_readings": "machine twin late story", "first_wrong": "machine twin late story",
    },
    "timeline": {"least_news": "depth"},
    "court": {
        "stirred_maps": "machine late stirred", "stirred_turns": "machine late number",
        "deep_turns": "machine late number", "court_paper": "machine late", "court_holds": "machine late value",
        "loops_forget": "machine late", "plain_forget": "machine late",
    },
    "texts": {
        "machine_text": "machine late", "story_text": "machine late story", "twin_text": "machine twin",
        "read_machine": "text", "read_story": "machine late text", "read_twin": "machine text",
    },
    "twins": {
        "first_row": "machine", "row_needed": "machine late row", "row_step": "machine late row place kind",
        "record_row": "machine late word", "row_state": "machine row", "row_reading": "machine row",
        "row_form": "machine late row", "rows_paper": "machine late one other",
        "rows_hold": "machine late one other value",
    },
    "web": {
        "forward_sets": "machine late", "set_words": "machine late", "backward_relations": "machine late",
        "relation_words": "machine late", "web": "machine late", "web_way": "machine late word",
        "standing_steps": "machine late",
    },
    "fewest": {"met_rows": "machine late", "fewest_words": "machine late", "least_twin": "machine late"},
    "late": {
        "late_fault": "machine", "late_fault_holds": "machine value", "most_kept": "states",
        "steep_machine": "states", "steep_word": "states",
    },
    "letters": {
        "own_row": "machine news", "join_rows": "machine one other", "whole_reading": "machine told_row",
        "parting_rooms": "machine word place", "need_letter": "machine many value",
    },
    "walkers": {
        "walkers_paper": "machine late", "walkers_hold": "machine late value", "court_of_walk": "machine late paper",
        "walk_of_court": "machine late paper", "rising_word": "machine late paper many",
    },
    "ways": {
        "marks_by": "machine late many", "widest_word": "machine late many", "marks_needed": "machine late",
        "growth": "machine late", "marks_paper": "machine late", "marks_hold": "machine late value",
    },
    "counts": {
        "counts_paper": "machine late", "counts_hold": "machine late value", "marks_for": "machine late many",
    },
    "deceivers": {
        "deceiving_word": "machine late marks", "deceiving_tests": "machine late marks",
        "tests_hold": "machine late marks value", "test_stories": "machine late marks value",
        "deceive": "machine late twin", "test_bound": "machine late", "judge_twin": "machine late twin",
        "judged_holds": "machine late twin value",
    },
    "ends": {
        "end_places": "machine word", "end_word": "machine word", "ends_apart": "machine",
        "question_answer": "kinds question word", "question_machine": "kinds question",
    },
    "lateness": {
        "need_lateness": "machine value", "window": "machine lateness", "gap_kinds": "machine lateness behind",
        "need_told": "machine lateness value", "told_sets": "machine lateness word",
        "told_relations": "machine lateness word", "told_needed": "machine lateness word",
        "told_marks": "machine lateness",
    },
    "past": {
        "past_needed": "machine late word", "past_moments": "machine late story",
        "past_paper": "machine late word place", "past_holds": "machine late word place value",
        "past_marks": "machine late", "past_marks_paper": "machine late", "past_marks_hold": "machine late value",
    },
    "withdrawn": {
        "need_gone": "machine value", "need_withdrawn": "machine late gone value",
        "standing_news": "machine late gone story", "withdrawn_readings": "machine late gone story",
        "back_word": "machine kind", "withdrawn_marks": "machine late gone",
    },
    "panels": {
        "need_panel": "value", "instrument": "panel number", "panel_machine": "panel lot",
        "panel_needed": "panel late word", "panel_marks": "panel late", "best_lots": "panel late marks",
        "pair_news": "machine late one other", "wild_ring": "machine late one other",
        "ring_holds": "machine late one other value", "wild_pairs": "machine late", "shown_classes": "machine late",
        "can_be_shown": "machine late",
    },
    "plants": {
        "kinds_apart": "one late other late_other", "kinds_shared": "one other", "relayed": "one other begins",
        "by_words": "machine late words", "need_reader": "value", "read_by": "plant late reader",
        "setters": "values", "places_read": "reader word", "reader_places": "reader",
    },
    "strikes": {
        "need_strikes": "machine gone twin value",
        "withdrawn_stands": "machine late gone twin strikes story",
        "withdrawn_stories": "machine late gone twin strikes",
    },
    "prompt": {
        "late_lots": "machine", "level_lots": "machine", "growing_lots": "machine", "prompt_lots": "machine",
        "lots_within": "machine marks", "easy_kinds": "machine", "freedoms": "machine",
        "bar_machine": "kinds lot", "bar_machines": "kinds lots", "shared_lots": "machines",
    },
    "looks": {
        "look_holds": "value", "make_look": "word question", "wrong_looks": "values",
        "case_file": "machine late marks", "case_holds": "machine late marks value",
    },
}

# Each class with its parameters, and its methods with theirs.
CLASSES = {
    "timeline": {
        "Timeline": ("machine", {
            "put_in": "moment kind", "strike_out": "moment", "state_now": "", "state_by": "moment",
            "map_between": "one other", "all_news": "", "depth": "",
        }),
    },
    "twins": {"LeastTwin": ("machine late", {"hear": "moment kind", "marks": "", "row": "", "reading": ""})},
    "letters": {
        "Rooms": ("machine many", {
            "hear": "room moment kind", "letter": "room", "take": "room letter", "known": "room",
            "joined_row": "room", "shown": "room",
        }),
    },
    "lateness": {"WindowTwin": ("machine lateness", {"hear": "moment kind", "marks": "", "reading": ""})},
    "past": {
        "PastTwin": ("machine late", {"hear": "moment kind", "marks": "", "kept_kinds": "", "state_then": "moment"}),
    },
    "withdrawn": {
        "WithdrawnTwin": ("machine late gone", {
            "hear": "moment kind", "withdraw": "moment kind", "marks": "", "row": "", "reading": "",
        }),
    },
    "room": {
        "Room": ("machine late gone", {
            "take": "deed", "shown": "", "kept": "", "if_late": "kind", "alarms": "reading", "may_show": "",
        }),
    },
    "live": {
        "Live": ("machine late gone", {
            "do_deed": "deed", "undo_deed": "", "redo_deed": "", "standing": "", "shown_at": "moment",
            "shown_then": "number", "shown_if": "number deed",
        }),
    },
    "desk": {"Desk": ("", {"say": "command"})},
}


class InterfaceTest(unittest.TestCase):
    def takes(self, function, parameters):
        """The function takes just these, by position or by name, all of them wanted."""
        told = inspect.signature(function).parameters.values()
        self.assertEqual([parameter.name for parameter in told], parameters.split(), function.__qualname__)
        for parameter in told:
            self.assertEqual(parameter.kind, inspect.Parameter.POSITIONAL_OR_KEYWORD, function.__qualname__)
            self.assertIs(parameter.default, inspect.Parameter.empty, function.__qualname__)

    def test_functions(self):
        for module, functions in FUNCTIONS.items():
            found = importlib.import_module(f"forgetwhen.{module}")
            for name, parameters in functions.items():
                function = getattr(found, name)
                self.assertTrue(inspect.isfunction(function), name)
                self.assertEqual(function.__module__, f"forgetwhen.{module}", name)
                self.takes(function, parameters)

    def test_classes(self):
        for module, classes in CLASSES.items():
            found = importlib.import_module(f"forgetwhen.{module}")
            for name, (parameters, methods) in classes.items():
                told = getattr(found, name)
                self.assertTrue(inspect.isclass(told), name)
                self.assertEqual(told.__module__, f"forgetwhen.{module}", name)
                self.takes(told.__init__, f"self {parameters}".strip())
                for method, wanted in methods.items():
                    self.assertIn(method, vars(told), name)
                    self.takes(vars(told)[method], f"self {wanted}")
