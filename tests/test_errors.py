import copy
import unittest

from framecues import errors
from strange import ERRORS


class ErrorsTest(unittest.TestCase):
    def test_cue_error_derives_directly_from_value_error(self):
        self.assertEqual(errors.CueError.__bases__, (ValueError,))

    def test_the_others_stand_directly_below_cue_error(self):
        for error in ERRORS[1:]:
            self.assertEqual(error.__bases__, (errors.CueError,), error)

    def test_they_are_defined_in_the_file_errors(self):
        names = ["CueError", "NoCurve", "NoTiming", "NoNumber", "NoSign", "NoFlag", "NoRow", "NoName", "Refused"]
        self.assertEqual([error.__name__ for error in ERRORS], names)
        for error in ERRORS:
            self.assertEqual(error.__module__, "framecues.errors")
            self.assertIs(getattr(errors, error.__name__), error)

    def test_they_may_have_a_message_or_none(self):
        for error in ERRORS[:-1]:
            self.assertEqual(str(error("some words")), "some words")
            self.assertEqual(str(error()), "")

    def test_refused_tells_its_kind(self):
        for kind in ("name", "state", "time"):
            self.assertEqual(errors.Refused(kind).kind, kind)
            self.assertEqual(errors.Refused(kind=kind).kind, kind)

    def test_refused_is_constructed_with_its_kind(self):
        with self.assertRaises(TypeError):
            errors.Refused()

    def test_each_refused_has_a_kind_of_its_own(self):
        first, second = errors.Refused("name"), errors.Refused("time")
        self.assertEqual((first.kind, second.kind), ("name", "time"))
        self.assertEqual(copy.copy(first).kind, "name")

    def test_they_are_caught_as_value_errors(self):
        for error in ERRORS:
            with self.assertRaises(ValueError):
                raise error("state")
