"""Promise [4]."""

import unittest

from forgetwhen import errors

AT_NAMES = """InvalidText InvalidMachine InvalidLate InvalidWord InvalidKind InvalidState InvalidMap InvalidStory
InvalidMoment InvalidPlaces InvalidTwin InvalidItems InvalidPaper InvalidLateness InvalidGone InvalidLot InvalidPanel
InvalidPlant InvalidLetter InvalidMarks InvalidReadings InvalidRoom InvalidDeed InvalidAsked InvalidIndex
Refused""".split()


class ErrorsTest(unittest.TestCase):
    def test_names(self):
        told = {name for name, value in vars(errors).items() if isinstance(value, type)}
        self.assertEqual(told, {"TwinError", "InvalidSize", "InvalidCommand", *AT_NAMES})
        self.assertEqual(len(AT_NAMES), 26)

    def test_bases(self):
        self.assertEqual(errors.TwinError.__bases__, (Exception,))
        for name in [*AT_NAMES, "InvalidSize", "InvalidCommand"]:
            self.assertEqual(getattr(errors, name).__bases__, (errors.TwinError,), name)

    def test_attributes(self):
        anything = [0, -1, True, None, "word", (1, [2]), object(), errors.TwinError()]
        for name in AT_NAMES:
            made = getattr(errors, name)
            for thing in anything:
                self.assertIs(made(thing).at, thing)
                self.assertIs(made(at=thing).at, thing)
                self.assertEqual(vars(made(thing)), {"at": thing})
        for thing in anything:
            self.assertIs(errors.InvalidSize(thing).word, thing)
            self.assertIs(errors.InvalidSize(word=thing).word, thing)
            self.assertEqual(vars(errors.InvalidSize(thing)), {"word": thing})
        self.assertEqual(vars(errors.InvalidCommand()), {})

    def test_kept_arguments_are_not_copied(self):
        kept = [1]
        error = errors.InvalidWord(kept)
        kept.append(2)
        self.assertEqual(error.at, [1, 2])

    def test_caught_by_base(self):
        for name in AT_NAMES:
            with self.assertRaises(errors.TwinError):
                raise getattr(errors, name)(3)
        with self.assertRaises(errors.TwinError):
            raise errors.InvalidSize("maps")
        with self.assertRaises(errors.TwinError):
            raise errors.InvalidCommand()
