"""The classes of errors: point 4 and the section of the errors."""

import unittest

from plainscan import errors

GIVEN = """InvalidText InvalidLetters InvalidDrops InvalidTerm InvalidGuard InvalidAsker InvalidLabels InvalidChange
InvalidNumber InvalidQuestion InvalidRow InvalidPoints InvalidRare InvalidTies InvalidCounted InvalidStep InvalidHouse
InvalidLot InvalidMark InvalidTell InvalidLine InvalidPlace InvalidWindow InvalidField Passed NotAWordRule NotAPolicy
NotALog NotARank NotAFleet NotADesk UnknownKey UnknownSearch TooMany TooLarge Lost Live Present Absent""".split()
INDEX = """InvalidFolds InvalidEndings InvalidDull InvalidRights InvalidChanges InvalidDocuments InvalidSpreads
InvalidEntries InvalidParts InvalidLists InvalidDepths InvalidNotes InvalidTallies""".split()
TOLD = {
    **{name: ("given",) for name in GIVEN},
    **{name: ("index",) for name in INDEX},
    "Disagree": ("key", "stamp"),
    "Clash": ("number",),
    "Trace": (),
    "Unserved": (),
    "NothingToUndo": (),
}
VALUES = (None, True, 0, -1, "", "a%b", b"x", (), (1, (2,)), [3], {}, object(), int)


class ErrorsTest(unittest.TestCase):
    def test_there_are_just_these_classes(self):
        found = {name for name, value in vars(errors).items() if isinstance(value, type)}
        self.assertEqual(found, {"ScanError", *TOLD})

    def test_each_stands_under_one_base_alone(self):
        self.assertEqual(errors.ScanError.__bases__, (ValueError,))
        for name in TOLD:
            self.assertEqual(getattr(errors, name).__bases__, (errors.ScanError,), name)

    def test_attributes_by_position(self):
        for name, told in TOLD.items():
            for value in VALUES:
                error = getattr(errors, name)(*[value] * len(told))
                self.assertEqual(vars(error), {attribute: value for attribute in told})

    def test_attributes_by_name(self):
        for name, told in TOLD.items():
            for value in VALUES:
                passed = {attribute: value for attribute in told}
                error = getattr(errors, name)(**passed)
                self.assertEqual(vars(error), passed)
                for attribute in told:
                    self.assertIs(getattr(error, attribute), value)

    def test_key_goes_ahead_of_stamp(self):
        error = errors.Disagree(3, 4)
        self.assertEqual((error.key, error.stamp), (3, 4))
        error = errors.Disagree(stamp=4, key=3)
        self.assertEqual((error.key, error.stamp), (3, 4))

    def test_they_can_be_raised_and_caught(self):
        for name, told in TOLD.items():
            with self.assertRaises(errors.ScanError):
                raise getattr(errors, name)(*[1] * len(told))


if __name__ == "__main__":
    unittest.main()
