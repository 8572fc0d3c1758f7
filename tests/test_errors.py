import inspect
import unittest

from laterknown import errors
from laterknown.values import Record

ONE_VALUE = (
    "BadRecord NoField BadKinds NoKind BadProgram Doubled Unnamed RingOfNames NoAddress Unsettled Ring Stuck "
    "NotWaiting Refused NoThing Taken Stale Denied NoRow NoCandidate NoLeft Recorded NoBlock BadName "
    "NotSingle Loud BadText BadLine"
).split(" ")
NO_VALUE = ("NothingToUndo", "NoProgram", "NoRoom")
TWO_VALUES = (("Faulty", "word"), ("Unsure", "found"))
ANY_VALUES = (0, -3, True, None, "", "net", (), ("a", 1), [1], {"a": []}, Record(a=1))


class ErrorsTest(unittest.TestCase):
    def test_the_root_of_all_errors(self):
        self.assertEqual(errors.LaterError.__bases__, (ValueError,))

    def test_there_are_just_these_errors(self):
        found = [name for name, thing in vars(errors).items() if inspect.isclass(thing)]
        wanted = ["LaterError", *ONE_VALUE, *NO_VALUE, *[name for name, _ in TWO_VALUES]]
        self.assertEqual(sorted(found), sorted(wanted))

    def test_all_derive_directly_and_are_defined_here(self):
        for name in [*ONE_VALUE, *NO_VALUE, *[name for name, _ in TWO_VALUES]]:
            error = getattr(errors, name)
            self.assertEqual(error.__bases__, (errors.LaterError,), name)
            self.assertEqual(error.__module__, "laterknown.errors", name)

    def test_one_value_is_kept(self):
        for name in ONE_VALUE:
            for value in ANY_VALUES:
                error = getattr(errors, name)
                self.assertIs(error(value).value, value, name)
                self.assertIs(error(value=value).value, value, name)

    def test_two_values_are_kept(self):
        for name, second in TWO_VALUES:
            for value in ANY_VALUES:
                error = getattr(errors, name)
                for made in (error(value, [value]), error(**{"value": value, second: [value]})):
                    self.assertIs(made.value, value, name)
                    self.assertEqual(getattr(made, second), [value], name)

    def test_no_value(self):
        for name in NO_VALUE:
            self.assertIsInstance(getattr(errors, name)(), errors.LaterError)

    def test_they_are_raised_and_caught(self):
        for name in ONE_VALUE:
            with self.assertRaises(getattr(errors, name)) as caught:
                raise getattr(errors, name)(("a", 1))
            self.assertEqual(caught.exception.value, ("a", 1))


if __name__ == "__main__":
    unittest.main()
