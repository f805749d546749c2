"""Ledgers: payments among the observers of a room."""

from wagerroom.errors import InvalidPaymentError, NothingToUndoError
from wagerroom.kinds import is_number_of, is_whole
from wagerroom.ratios import is_positive_fraction, negative, total
from wagerroom.scenes import Scene
from wagerroom.wagers import expected, is_wager


def transferred(amounts, place, payer, receiver, amount):
    """Return the amounts after the payer has paid the amount to the receiver at this place."""
    rows = [list(row) for row in amounts]
    rows[payer][place] = total(rows[payer][place], negative(amount))
    rows[receiver][place] = total(rows[receiver][place], amount)
    return tuple([tuple(row) for row in rows])


class Ledger:
    """The payments among the observers of a room in a region, and the amounts that they come to."""

    def __init__(self, room, region):
        self.places = Scene(room).region_cases(region)
        self.room = room
        self.region = region
        self.records = []
        self.write(tuple([((0, 1),) * len(self.places) for observer in room.observers]))

    def write(self, amounts):
        """Set all that follows from the amounts and the records."""
        self.amounts = amounts
        self.expected = expected(self.room, self.region, amounts)
        self.is_wager = is_wager(self.room, self.region, amounts)
        self.recorded = len(self.records)

    def is_payment(self, value):
        """Return whether any value is a payment (case, payer, receiver, amount)."""
        if not isinstance(value, tuple) or len(value) != 4:
            return False
        case, payer, receiver, amount = value
        if not is_whole(case) or case not in self.places:
            return False
        many = len(self.amounts)
        if not is_number_of(payer, many) or not is_number_of(receiver, many):
            return False
        return payer != receiver and is_positive_fraction(amount)

    def pay(self, case, payer, receiver, amount):
        """Record that the payer pays the amount to the receiver if the case holds."""
        self.pay_all((case, payer, receiver, amount))

    def pay_all(self, *payments):
        """Record tuples (case, payer, receiver, amount) in order, or none if one of them is wrong."""
        if not all([self.is_payment(payment) for payment in payments]):
            raise InvalidPaymentError("not a payment in this region")
        amounts = self.amounts
        for case, payer, receiver, amount in payments:
            amounts = transferred(amounts, self.places.index(case), payer, receiver, amount)
        self.records.extend(payments)
        self.write(amounts)

    def undo(self):
        """Take back the last recorded payment."""
        if len(self.records) == 0:
            raise NothingToUndoError("no payment is recorded")
        case, payer, receiver, amount = self.records.pop()
        self.write(transferred(self.amounts, self.places.index(case), receiver, payer, amount))

    def payments(self):
        """Yield the recorded payments, from the first one on."""
        yield from self.records
