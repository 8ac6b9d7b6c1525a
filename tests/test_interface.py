"""The interface: every name is defined in its file, with its parameters."""

import importlib
import inspect
import unittest

FUNCTIONS = {
    "machines": {
        "need_machine": "value", "machine_sizes": "machine", "need_kind": "machine value",
        "need_state": "machine value", "need_late": "machine value", "need_word": "machine value",
        "need_map": "machine value", "same_map": "machine", "map_then": "machine one other",
        "word_map": "machine word", "word_states": "machine word", "word_readings": "machine word",
        "reach_words": "machine",
    },
    "least": {
        "rounds": "machine", "parting_word": "machine one other", "least_names": "machine",
        "least_machine": "machine", "is_least": "machine", "alike_paper": "one other",
        "alike_holds": "one other value", "machine_count": "states kinds shown",
        "nth_machine": "states kinds shown number", "machine_number": "machine shown",
    },
    "stories": {
        "need_story": "machine late value", "need_moment": "value", "record": "machine late story",
        "story_states": "machine late story", "story_readings": "machine late story",
        "state_at": "machine late story moment", "cut_maps": "machine late story moment",
        "late_by": "machine late story", "story_places": "machine late story",
        "places_story": "machine late places", "plain_story": "machine late story",
        "story_count": "machine late many", "nth_story": "machine late many number",
        "story_number": "machine late story",
    },
    "maps": {
        "all_maps": "machine", "map_number": "machine one", "idempotents": "machine", "power_ring": "machine one",
        "still_power": "machine one", "undone_at": "machine number",
    },
}


class InterfaceTest(unittest.TestCase):
    def test_functions(self):
        for module, functions in FUNCTIONS.items():
            found = importlib.import_module(f"forgetwhen.{module}")
            for name, parameters in functions.items():
                function = getattr(found, name)
                self.assertTrue(inspect.isfunction(function), name)
                self.assertEqual(function.__module__, f"forgetwhen.{module}", name)
                told = inspect.signature(function).parameters.values()
                self.assertEqual([parameter.name for parameter in told], parameters.split(), name)
                for parameter in told:
                    self.assertEqual(parameter.kind, inspect.Parameter.POSITIONAL_OR_KEYWORD, name)
                    self.assertIs(parameter.default, inspect.Parameter.empty, name)
