"""Tests of wagerroom.errors: point 4 and the errors of the interface."""

import inspect
import unittest

from wagerroom import errors

NAMES = (
    "InvalidFractionError",
    "InvalidLabelsError",
    "MismatchError",
    "InvalidOddsError",
    "InvalidWeightsError",
    "InvalidEventError",
    "InvalidAmountsError",
    "InvalidRoomError",
    "InvalidGroupError",
    "InvalidQuestionError",
    "EmptyEventError",
    "InvalidRegionError",
    "InvalidWalkError",
    "InvalidPaymentError",
    "NothingToUndoError",
    "InvalidCaseError",
    "OutOfRangeError",
    "InvalidTextError",
)


class ErrorTest(unittest.TestCase):

    def test_room_error_is_a_value_error(self):
        self.assertEqual(errors.RoomError.__bases__, (ValueError,))

    def test_each_error_is_directly_under_room_error(self):
        for name in NAMES + ("OddsDifferError",):
            with self.subTest(name):
                error = getattr(errors, name)
                self.assertEqual(error.__bases__, (errors.RoomError,))
                self.assertEqual(error.__name__, name)
                self.assertEqual(error.__module__, "wagerroom.errors")

    def test_there_are_no_other_classes(self):
        found = [name for name, value in vars(errors).items() if inspect.isclass(value)]
        self.assertEqual(sorted(found), sorted(NAMES + ("RoomError", "OddsDifferError")))

    def test_errors_are_created_with_a_message(self):
        for name in NAMES + ("RoomError",):
            with self.subTest(name):
                self.assertEqual(str(getattr(errors, name)("why so")), "why so")

    def test_odds_differ_error_has_its_fields(self):
        self.assertEqual(str(inspect.signature(errors.OddsDifferError)), "(one, other)")
        error = errors.OddsDifferError(2, 7)
        self.assertEqual((error.one, error.other), (2, 7))

    def test_odds_differ_errors_keep_their_own_fields(self):
        first = errors.OddsDifferError(0, 1)
        second = errors.OddsDifferError(3, 11)
        self.assertEqual((first.one, first.other), (0, 1))
        self.assertEqual((second.one, second.other), (3, 11))

    def test_odds_differ_error_can_be_caught(self):
        with self.assertRaises(errors.RoomError) as caught:
            raise errors.OddsDifferError(4, 5)
        self.assertEqual((caught.exception.one, caught.exception.other), (4, 5))


if __name__ == "__main__":
    unittest.main()
