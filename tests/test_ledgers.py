"""Tests of wagerroom.ledgers: point 62."""

import inspect
import itertools
import unittest
from fractions import Fraction

from tests.helper import OTHER_KINDS, PromiseCase
from tests.scenery import (
    AGREED, HIDDEN, NOT_NUMBERS, QUARREL, REDUCED, SAMPLES, SEVERAL, exact, numbers, observer_of, pair_of, room_of,
    room_with, some_rooms, state,
)
from wagerroom import ledgers
from wagerroom.errors import InvalidPaymentError, InvalidRegionError, NothingToUndoError
from wagerroom.ledgers import Ledger
from wagerroom.ratios import is_valid_fraction
from wagerroom.wagers import expected, is_wager, wager

ONE = (1, 1)
ZERO = (0, 1)
HALF = (1, 2)
HUGE = 10 ** 40


def opening(room):
    """A function that opens a ledger of this room."""
    def opened(region):
        return Ledger(room, region)
    return opened


def contents(ledger):
    return ledger.amounts, ledger.expected, ledger.is_wager, ledger.recorded, tuple(ledger.payments())


def amounts_by_hand(room, region, payments):
    cases = room.regions[region]
    rows = [[Fraction(0)] * len(cases) for _ in room.observers]
    for case, payer, receiver, amount in payments:
        rows[payer][cases.index(case)] -= exact(amount)
        rows[receiver][cases.index(case)] += exact(amount)
    return tuple(tuple(map(pair_of, row)) for row in rows)


def payments_of(amounts, cases):
    """Payments that come to these amounts, which add up to 0 in each case."""
    found = []
    for place, case in enumerate(cases):
        for number in range(1, len(amounts)):
            top, bottom = amounts[number][place]
            if top > 0:
                found.append((case, 0, number, (top, bottom)))
            if top < 0:
                found.append((case, number, 0, (-top, bottom)))
    return found


class LedgerCase(PromiseCase):

    def holds(self, ledger, room, region, payments):
        """The ledger holds just these payments, and all follows from them."""
        amounts = amounts_by_hand(room, region, payments)
        wanted = (
            amounts, expected(room, region, amounts), is_wager(room, region, amounts), len(payments), tuple(payments),
        )
        self.assert_alike(contents(ledger), wanted)
        self.assert_alike(contents(ledger), wanted)

    def stays(self, ledger, error, function, *arguments):
        before = contents(ledger)
        self.refuses(error, function, *arguments)
        self.assert_alike(contents(ledger), before, "after the error")


class OpeningTest(LedgerCase):

    def test_nothing_is_recorded_at_first(self):
        for room in SAMPLES:
            for region in range(len(room.regions)):
                before = state(room)
                self.holds(Ledger(room, region), room, region, [])
                self.assert_alike(state(room), before)

    def test_examples(self):
        ledger = Ledger(AGREED, 0)
        self.assert_alike(ledger.amounts, ((ZERO,) * 3,) * 2)
        self.assert_alike(ledger.expected, ((ZERO, ZERO), (ZERO, ZERO)))
        self.assert_alike(ledger.is_wager, False)
        self.assert_alike(ledger.recorded, 0)
        self.assert_alike(list(ledger.payments()), [])
        self.assert_alike(Ledger(REDUCED, 1).amounts, ((ZERO,),) * 3)
        self.assert_alike(Ledger(REDUCED, 0).expected, ((ZERO,), (ZERO, ZERO), (ZERO, ZERO)))

    def test_wrong_regions(self):
        for room in (AGREED, SEVERAL, REDUCED):
            for value in NOT_NUMBERS + OTHER_KINDS + (len(room.regions),):
                self.refuses(InvalidRegionError, opening(room), value)


class PayTest(LedgerCase):

    def test_one_payment(self):
        ledger = Ledger(AGREED, 0)
        self.assertIsNone(ledger.pay(1, 0, 1, (3, 2)))
        self.assert_alike(ledger.amounts, ((ZERO, (-3, 2), ZERO), (ZERO, (3, 2), ZERO)))
        self.assert_alike(ledger.expected, (((-3, 4), ZERO), (ZERO, HALF)))
        self.assert_alike(ledger.is_wager, False)
        self.assert_alike(ledger.recorded, 1)
        self.assert_alike(list(ledger.payments()), [(1, 0, 1, (3, 2))])

    def test_one_after_the_other(self):
        ledger = Ledger(QUARREL, 0)
        payments = []
        for payment in ((0, 0, 1, ONE), (0, 0, 1, ONE), (2, 2, 0, (5, 7)), (1, 1, 2, (1, 1000)), (0, 1, 0, (2, 1)),
                        (1, 2, 1, (1, 1000)), (2, 0, 2, (HUGE, HUGE - 1))):
            self.assertIsNone(ledger.pay(*payment))
            payments.append(payment)
            self.holds(ledger, QUARREL, 0, payments)

    def test_a_wager_is_paid_for(self):
        for room in (QUARREL, HIDDEN):
            ledger = Ledger(room, 0)
            given = payments_of(wager(room, 0), room.regions[0])
            for at, payment in enumerate(given):
                self.assert_alike(ledger.is_wager, is_wager(room, 0, amounts_by_hand(room, 0, given[:at])))
                ledger.pay(*payment)
                self.holds(ledger, room, 0, given[:at + 1])
            self.assert_alike(ledger.is_wager, True)
            self.assert_alike(ledger.amounts, wager(room, 0))
            self.assert_alike(ledger.expected, ((ONE, ONE),) * 3)
            ledger.undo()
            self.holds(ledger, room, 0, given[:-1])
            self.assert_alike(ledger.is_wager, False)

    def test_cases_of_the_region_count(self):
        ledger = Ledger(SEVERAL, 2)
        ledger.pay(4, 0, 2, ONE)
        self.assert_alike(ledger.amounts[0], (ZERO, (-1, 1), ZERO))
        for case in (0, 1, 2, 6):
            self.stays(ledger, InvalidPaymentError, ledger.pay, case, 0, 2, ONE)
        ledger = Ledger(REDUCED, 0)
        ledger.pay(3, 1, 2, ONE)
        self.holds(ledger, REDUCED, 0, [(3, 1, 2, ONE)])
        for case in (1, 2):
            self.stays(ledger, InvalidPaymentError, ledger.pay, case, 1, 2, ONE)

    def test_one_object_as_several_observers(self):
        observer = observer_of("0:1/2 1:1/2")
        room = room_with(observer, observer)
        ledger = Ledger(room, 0)
        ledger.pay(0, 1, 0, ONE)
        self.holds(ledger, room, 0, [(0, 1, 0, ONE)])

    def test_parts_are_ordered_by_their_least_present_cases(self):
        room = room_of("0:1/2 3:1/2 | 1:1/2 2:1/2", "0:1/4 1:1/4 2:1/4 3:1/4", cases=(1, 2, 3))
        ledger = Ledger(room, 0)
        ledger.pay(3, 1, 0, (5, 1))
        self.assert_alike(ledger.expected, ((ZERO, (5, 1)), ((-5, 3),)))

    # Wrong payments in the region (0, 3) of REDUCED, whose observers are 0, 1 and 2.
    WRONG = (
        (1, 0, 1, ONE), (2, 0, 1, ONE), (4, 0, 1, ONE), (-1, 0, 1, ONE), (False, 0, 1, ONE), ("0", 0, 1, ONE),
        (None, 0, 1, ONE), ((0,), 0, 1, ONE), ([0], 0, 1, ONE), (10 ** 12, 0, 1, ONE),
        (0, 3, 1, ONE), (0, -1, 1, ONE), (0, True, 0, ONE), (0, False, 1, ONE), (0, "0", 1, ONE), (0, None, 1, ONE),
        (0, [0], 1, ONE), (0, 0, 3, ONE), (0, 0, -1, ONE), (0, 0, True, ONE), (0, 1, False, ONE), (0, 0, "1", ONE),
        (0, 0, None, ONE), (0, 0, (1,), ONE), (0, 0, 0, ONE), (0, 1, 1, ONE), (3, 2, 2, ONE), (0, 10 ** 12, 0, ONE),
        (0, 0, 1, ZERO), (0, 0, 1, (-1, 2)), (0, 0, 1, (2, 4)), (0, 0, 1, (1, 0)), (0, 0, 1, (1, -1)),
        (0, 0, 1, (-1, -1)), (0, 0, 1, (True, 1)), (0, 0, 1, (1, True)), (0, 0, 1, [1, 1]), (0, 0, 1, 1),
        (0, 0, 1, "1"), (0, 0, 1, "1/2"), (0, 0, 1, None), (0, 0, 1, (1,)), (0, 0, 1, (1, 1, 1)), (0, 0, 1, True),
        (None,) * 4, (0,) * 4, (ONE,) * 4, (ONE, 0, 1, 0),
    )

    def test_wrong_payments(self):
        ledger = Ledger(REDUCED, 0)
        for before in ([], [(0, 0, 1, ONE)], [(0, 0, 1, ONE), (3, 2, 1, HALF)]):
            for payment in before[-1:]:
                ledger.pay(*payment)
            for payment in self.WRONG:
                self.stays(ledger, InvalidPaymentError, ledger.pay, *payment)
            self.holds(ledger, REDUCED, 0, before)

    def test_values_of_any_kind(self):
        ledger = Ledger(QUARREL, 0)
        for value in OTHER_KINDS:
            self.stays(ledger, InvalidPaymentError, ledger.pay, value, 0, 1, ONE)
            self.stays(ledger, InvalidPaymentError, ledger.pay, 0, value, 1, ONE)
            self.stays(ledger, InvalidPaymentError, ledger.pay, 0, 0, value, ONE)
            if not is_valid_fraction(value) or value[0] <= 0:
                self.stays(ledger, InvalidPaymentError, ledger.pay, 0, 0, 1, value)
            self.stays(ledger, InvalidPaymentError, ledger.pay, value, value, value, value)


class PayAllTest(LedgerCase):

    GIVEN = ((0, 0, 1, ONE), (3, 2, 1, HALF), (0, 1, 0, (1, 3)), (0, 0, 1, ONE))

    def test_several_at_once(self):
        for many in range(len(self.GIVEN) + 1):
            ledger = Ledger(REDUCED, 0)
            self.assertIsNone(ledger.pay_all(*self.GIVEN[:many]))
            self.holds(ledger, REDUCED, 0, list(self.GIVEN[:many]))

    def test_after_others(self):
        ledger = Ledger(REDUCED, 0)
        ledger.pay(3, 0, 2, (7, 1))
        ledger.pay_all(*self.GIVEN)
        ledger.pay_all()
        ledger.pay(0, 2, 0, (8, 9))
        ledger.pay_all(*self.GIVEN[:1])
        self.holds(ledger, REDUCED, 0,
                   [(3, 0, 2, (7, 1)), *self.GIVEN, (0, 2, 0, (8, 9)), self.GIVEN[0]])

    def test_none(self):
        ledger = Ledger(REDUCED, 0)
        self.assertIsNone(ledger.pay_all())
        self.holds(ledger, REDUCED, 0, [])
        self.refuses(NothingToUndoError, ledger.undo)

    def test_if_one_is_wrong_none_is_recorded(self):
        ledger = Ledger(REDUCED, 0)
        for before in ([], [(0, 0, 1, ONE)]):
            for payment in before:
                ledger.pay(*payment)
            for wrong in PayTest.WRONG + OTHER_KINDS:
                for place in (0, 2, 4):
                    given = self.GIVEN[:place] + (wrong,) + self.GIVEN[place:]
                    self.stays(ledger, InvalidPaymentError, ledger.pay_all, *given)
                self.stays(ledger, InvalidPaymentError, ledger.pay_all, wrong)
            self.holds(ledger, REDUCED, 0, before)

    def test_payments_of_another_form(self):
        ledger = Ledger(REDUCED, 0)
        good = self.GIVEN[0]
        for wrong in (list(good), good[:3], good + (0,), (good,), [good], self.GIVEN, dict(enumerate(good)), str(good)):
            self.stays(ledger, InvalidPaymentError, ledger.pay_all, wrong)
            self.stays(ledger, InvalidPaymentError, ledger.pay_all, good, wrong)


class UndoTest(LedgerCase):

    def test_back_to_the_beginning(self):
        ledger = Ledger(QUARREL, 0)
        payments = [(0, 0, 1, ONE), (1, 2, 0, HALF), (2, 1, 2, (3, 4)), (0, 1, 0, ONE)]
        ledger.pay(*payments[0])
        ledger.pay_all(*payments[1:])
        while payments:
            self.holds(ledger, QUARREL, 0, payments)
            self.assertIsNone(ledger.undo())
            payments.pop()
        self.holds(ledger, QUARREL, 0, [])
        self.stays(ledger, NothingToUndoError, ledger.undo)
        ledger.pay(1, 0, 1, ONE)
        self.holds(ledger, QUARREL, 0, [(1, 0, 1, ONE)])

    def test_nothing_to_undo(self):
        ledger = Ledger(AGREED, 0)
        self.stays(ledger, NothingToUndoError, ledger.undo)
        self.refuses(InvalidPaymentError, ledger.pay, 0, 0, 0, ONE)
        self.stays(ledger, NothingToUndoError, ledger.undo)

    def test_equal_payments(self):
        ledger = Ledger(AGREED, 0)
        ledger.pay_all((0, 0, 1, ONE), (0, 1, 0, ONE), (0, 0, 1, ONE))
        ledger.undo()
        self.holds(ledger, AGREED, 0, [(0, 0, 1, ONE), (0, 1, 0, ONE)])


class ManyLedgersTest(LedgerCase):

    def test_two_ledgers_of_one_room(self):
        one, other, third = Ledger(SEVERAL, 0), Ledger(SEVERAL, 0), Ledger(SEVERAL, 2)
        one.pay(0, 0, 1, ONE)
        third.pay_all((3, 1, 2, HALF), (5, 0, 2, HALF))
        self.holds(one, SEVERAL, 0, [(0, 0, 1, ONE)])
        self.holds(other, SEVERAL, 0, [])
        self.holds(third, SEVERAL, 2, [(3, 1, 2, HALF), (5, 0, 2, HALF)])
        other.pay(2, 2, 1, HALF)
        one.undo()
        self.holds(one, SEVERAL, 0, [])
        self.holds(other, SEVERAL, 0, [(2, 2, 1, HALF)])

    def test_many_rooms(self):
        source_of_numbers = numbers(51)
        found = {True: 0, False: 0}
        for room in some_rooms(52, 100):
            before = state(room)
            for region, cases in enumerate(room.regions):
                ledger = Ledger(room, region)
                payments = []
                if wager(room, region) is not None:
                    payments = payments_of(wager(room, region), cases)
                    ledger.pay_all(*payments)
                    found[ledger.is_wager] += 1
                    self.assertTrue(ledger.is_wager)
                pairs = list(itertools.permutations(range(len(room.observers)), 2))
                for _ in range(4 if pairs else 0):
                    payer, receiver = pairs[next(source_of_numbers) % len(pairs)]
                    amount = pair_of(Fraction(next(source_of_numbers) % 30 + 1, next(source_of_numbers) % 9 + 1))
                    payments.append((cases[next(source_of_numbers) % len(cases)], payer, receiver, amount))
                    ledger.pay(*payments[-1])
                    found[ledger.is_wager] += 1
                self.holds(ledger, room, region, payments)
            self.assert_alike(state(room), before)
        self.assertGreater(found[True], 20)
        self.assertGreater(found[False], 20)

    def test_one_observer_has_nobody_to_pay(self):
        ledger = Ledger(room_of("0:1/2 1:1/2"), 0)
        for payer, receiver in ((0, 0), (0, 1), (1, 0)):
            self.stays(ledger, InvalidPaymentError, ledger.pay, 0, payer, receiver, ONE)

    def test_payments_are_yielded_anew_each_time(self):
        ledger = Ledger(AGREED, 0)
        ledger.pay_all((0, 0, 1, ONE), (1, 1, 0, HALF))
        first = ledger.payments()
        self.assert_alike(next(first), (0, 0, 1, ONE))
        self.assert_alike(list(ledger.payments()), [(0, 0, 1, ONE), (1, 1, 0, HALF)])
        self.assert_alike(next(first), (1, 1, 0, HALF))
        with self.assertRaises(StopIteration):
            next(first)

    def test_what_was_recorded_can_be_passed_back(self):
        one, other = Ledger(AGREED, 0), Ledger(AGREED, 0)
        one.pay_all((0, 0, 1, ONE), (1, 1, 0, HALF))
        other.pay_all(*one.payments())
        self.assert_alike(contents(other), contents(one))
        self.assert_alike(expected(AGREED, 0, one.amounts), one.expected)
        self.assert_alike(is_wager(AGREED, 0, one.amounts), one.is_wager)


class LedgersInterfaceTest(PromiseCase):

    def test_ledger_stands_in_its_file(self):
        self.assertEqual(Ledger.__module__, ledgers.__name__)
        self.assertEqual(str(inspect.signature(Ledger)), "(room, region)")

    def test_methods_stand_in_the_class(self):
        wanted = {
            "__init__": "(self, room, region)",
            "pay": "(self, case, payer, receiver, amount)",
            "pay_all": "(self, *payments)",
            "undo": "(self)",
            "payments": "(self)",
        }
        for name, parameters in wanted.items():
            self.assertEqual(str(inspect.signature(vars(Ledger)[name])), parameters)
        self.assertTrue(inspect.isgeneratorfunction(Ledger.payments))

    def test_attributes_are_there_from_the_beginning(self):
        for name in ("amounts", "expected", "is_wager", "recorded"):
            self.assertTrue(hasattr(Ledger(AGREED, 0), name), name)


if __name__ == "__main__":
    unittest.main()
