import unittest

from faultorder import errors
from faultorder.errors import (BadMachine, BadPlant, BadText, FaultError, Mismatch, NoEvent, NoNumber, NoOdds,
                               NoOperation, NoPart, NoSensor, NothingLeft, TooMany)
from tests.making import ANY_VALUES

WITH_ATTRIBUTE = [(BadPlant, "part"), (NoPart, "index"), (NoSensor, "index"), (NoEvent, "index"),
                  (NoNumber, "number"), (TooMany, "most"), (NoOperation, "index"), (BadText, "line")]
WITH_MESSAGE = [NoOdds, BadMachine, Mismatch, NothingLeft]


class TestErrors(unittest.TestCase):
    def test_the_family(self):
        self.assertEqual(FaultError.__bases__, (ValueError,))
        for kind in [kind for kind, _ in WITH_ATTRIBUTE] + WITH_MESSAGE:
            self.assertEqual(kind.__bases__, (FaultError,), kind)

    def test_there_are_no_others(self):
        known = [kind for kind, _ in WITH_ATTRIBUTE] + WITH_MESSAGE + [FaultError]
        defined = [value for value in vars(errors).values() if isinstance(value, type)]
        self.assertEqual(sorted(kind.__name__ for kind in known), sorted(kind.__name__ for kind in defined))
        self.assertEqual({kind.__module__ for kind in known}, {"faultorder.errors"})

    def test_an_attribute_is_what_was_passed(self):
        for kind, name in WITH_ATTRIBUTE:
            for value in ANY_VALUES + ["a", "hot", [("a", 1)]]:
                by_place = kind(value)
                by_name = kind(**{name: value})
                self.assertIs(getattr(by_place, name), value)
                self.assertIs(getattr(by_name, name), value)
                self.assertIsInstance(str(by_place), str)

    def test_one_argument_is_needed(self):
        for kind, _ in WITH_ATTRIBUTE:
            self.assertRaises(TypeError, kind)
            self.assertRaises(TypeError, kind, 1, 2)

    def test_the_others_take_a_message(self):
        for kind in WITH_MESSAGE + [FaultError]:
            self.assertEqual(str(kind("what is wrong")), "what is wrong")

    def test_they_are_raised_and_caught(self):
        for kind, name in WITH_ATTRIBUTE:
            with self.assertRaises(FaultError) as caught:
                raise kind(3)
            self.assertEqual(getattr(caught.exception, name), 3)
        for kind in WITH_MESSAGE:
            with self.assertRaises(ValueError):
                raise kind("why")


if __name__ == "__main__":
    unittest.main()
