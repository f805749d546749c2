"""Tests of wagerroom.cells: points 20 and 21."""

import itertools
import unittest

from tests.helper import OTHER_KINDS, PromiseCase
from wagerroom import cells
from wagerroom.cells import is_valid_labels, joined, parts_of, refined
from wagerroom.errors import InvalidLabelsError, MismatchError

COARSEST = (0,) * 12
FINEST = tuple(range(12))

VALID = (
    (0,),
    (0, 0),
    (0, 1),
    (0, 1, 0),
    (0, 0, 1),
    (0, 1, 2, 0, 3),
    (0, 1, 0, 1, 2, 1),
    COARSEST,
    FINEST,
    (0, 0, 1, 1, 2, 2, 3, 3, 4, 4, 5, 5),
    (0, 1, 2, 3, 0, 1, 2, 3, 4, 0, 4, 5),
)

NOT_LABELS = OTHER_KINDS + (
    0,
    (1,),
    (-1,),
    (2,),
    (1, 0),
    (1, 1),
    (-1, 0),
    (0, -1),
    (0, 1, -1),
    (0, 2),
    (0, 0, 2),
    (0, 1, 3),
    (0, 1, 0, 3),
    (0, 0, 0, 0, 2, 1),
    (0, 1, 2, 1, 4),
    (True,),
    (False,),
    (False, 1),
    (0, True),
    (0, False),
    (0, 1, True),
    [0],
    [0, 1],
    [0, 0, 1],
    ([0], [1]),
    (0, [0]),
    (0, (1,)),
    (0, None),
    (0, "1"),
    "0",
    "01",
    {0: 0, 1: 1},
    (0, 10 ** 13),
    (0, 1, -10 ** 13),
    (0,) * 13,
    tuple(range(13)),
    (0, 1) * 7,
    (0,) * 3000,
)


def all_labels(many):
    """All labels of so many cases, by the words of point 20."""
    found = [(0,)]
    for _ in range(many - 1):
        found = [row + (label,) for row in found for label in range(max(row) + 2)]
    return found


def is_finer(one, other):
    """Whether each part of one lies in one part of other."""
    cases = range(len(one))
    return all(other[a] == other[b] for a in cases for b in cases if one[a] == one[b])


class LabelsTest(PromiseCase):
    """Point 20: labels."""

    def test_labels(self):
        for value in VALID:
            self.gives(True, is_valid_labels, value)

    def test_other_values(self):
        for value in NOT_LABELS:
            self.gives(False, is_valid_labels, value)

    def test_all_short_tuples(self):
        for many in range(1, 6):
            known = all_labels(many)
            for value in itertools.product(range(-1, many + 1), repeat=many):
                self.gives(value in known, is_valid_labels, value)

    def test_each_length_from_1_to_12(self):
        for many in range(15):
            self.gives(1 <= many <= 12, is_valid_labels, (0,) * many)
            self.gives(1 <= many <= 12, is_valid_labels, tuple(range(many)))

    def test_one_wrong_entry_in_each_place(self):
        for place in range(12):
            for wrong in (-1, place + 1, True, None, "0", (0,)):
                value = FINEST[:place] + (wrong,) + FINEST[place + 1:]
                self.gives(False, is_valid_labels, value)


class PartsTest(PromiseCase):
    """Point 20: parts_of."""

    def test_examples(self):
        self.gives(((0,),), parts_of, (0,))
        self.gives(((0, 1, 2),), parts_of, (0, 0, 0))
        self.gives(((0,), (1,), (2,)), parts_of, (0, 1, 2))
        self.gives(((0, 2), (1,)), parts_of, (0, 1, 0))
        self.gives(((0, 1), (2,)), parts_of, (0, 0, 1))
        self.gives(((0, 4), (1, 3, 5), (2,)), parts_of, (0, 1, 2, 1, 0, 1))
        self.gives((FINEST,), parts_of, COARSEST)
        self.gives(tuple((case,) for case in range(12)), parts_of, FINEST)

    def test_all_short_labels(self):
        for many in range(1, 7):
            for labels in all_labels(many):
                wanted = tuple(
                    tuple(case for case in range(many) if labels[case] == number)
                    for number in sorted(set(labels))
                )
                self.gives(wanted, parts_of, labels)

    def test_wrong_values(self):
        for value in NOT_LABELS:
            self.refuses(InvalidLabelsError, parts_of, value)


class RefinedAndJoinedTest(PromiseCase):
    """Point 21."""

    def test_of_one(self):
        for value in VALID:
            self.gives(value, refined, value)
            self.gives(value, joined, value)

    def test_of_equal_ones(self):
        for value in VALID:
            self.gives(value, refined, value, value)
            self.gives(value, joined, value, value, value)

    def test_examples(self):
        self.gives((0, 1, 2), refined, (0, 0, 1), (0, 1, 1))
        self.gives((0, 0, 0), joined, (0, 0, 1), (0, 1, 1))
        self.gives((0, 1, 1, 0), refined, (0, 1, 1, 0), (0, 0, 0, 0))
        self.gives((0, 1, 1, 0), joined, (0, 1, 1, 0), (0, 1, 2, 3))
        self.gives((0, 1, 2, 3), refined, (0, 0, 1, 1), (0, 1, 0, 1))
        self.gives((0, 1, 0, 1), joined, (0, 1, 0, 2), (0, 1, 2, 1))

    def test_coarsest_and_finest(self):
        for value in VALID:
            coarsest = COARSEST[:len(value)]
            finest = FINEST[:len(value)]
            self.gives(value, refined, value, coarsest)
            self.gives(finest, refined, finest, value)
            self.gives(coarsest, joined, value, coarsest)
            self.gives(value, joined, finest, value)

    def test_all_pairs_of_short_ones(self):
        for many in range(1, 6):
            known = all_labels(many)
            below = {one: {other for other in known if is_finer(other, one)} for one in known}
            above = {one: {other for other in known if is_finer(one, other)} for one in known}
            for one, other in itertools.product(known, repeat=2):
                coarsest = min(below[one] & below[other], key=max)
                finest = max(above[one] & above[other], key=max)
                self.gives(coarsest, refined, one, other)
                self.gives(finest, joined, one, other)

    def test_all_triples_of_four_cases(self):
        known = all_labels(4)
        for several in itertools.product(known, repeat=3):
            below = [row for row in known if all(is_finer(row, one) for one in several)]
            above = [row for row in known if all(is_finer(one, row) for one in several)]
            self.gives(min(below, key=max), refined, *several)
            self.gives(max(above, key=max), joined, *several)

    def test_chains_of_links(self):
        pairs = (0, 0, 1, 1, 2, 2, 3, 3, 4, 4, 5, 5)
        between = (0, 1, 1, 2, 2, 3, 3, 4, 4, 5, 5, 6)
        self.gives(COARSEST, joined, pairs, between)
        self.gives(COARSEST, joined, between, pairs)
        self.gives(FINEST, refined, pairs, between)
        self.gives(
            (0, 0, 0, 1, 1, 1, 0, 0, 0, 1, 1, 1),
            joined,
            (0, 1, 2, 3, 4, 5, 2, 6, 7, 5, 8, 9),
            (0, 0, 1, 2, 2, 3, 4, 4, 5, 6, 6, 7),
            (0, 1, 1, 2, 3, 3, 4, 5, 5, 6, 7, 7),
        )

    def test_a_chain_over_many_partitions(self):
        # Each partition links one case to the next one, the later links first.
        links = []
        for case in reversed(range(11)):
            links.append(tuple(range(case + 1)) + tuple(range(case, 11)))
        self.gives(COARSEST, joined, *links)
        self.gives(COARSEST, joined, *reversed(links))
        self.gives((0,) * 11 + (1,), joined, *links[1:])
        self.gives(FINEST, refined, *links)

    def test_order_makes_no_difference(self):
        several = (
            (0, 0, 1, 2, 3, 3, 4, 0, 5, 6, 6, 1),
            (0, 1, 2, 2, 3, 4, 5, 6, 6, 6, 7, 8),
            (0, 1, 0, 2, 3, 1, 4, 5, 2, 4, 6, 7),
            (0, 0, 0, 0, 0, 1, 1, 2, 3, 1, 1, 2),
        )
        finest = refined(*several)
        coarsest = joined(*several)
        for order in itertools.permutations(several):
            self.gives(finest, refined, *order)
            self.gives(coarsest, joined, *order)

    def test_answers_are_labels_of_the_same_length(self):
        for one, other in itertools.product(all_labels(5), all_labels(5)):
            for function in (refined, joined):
                answer = function(one, other)
                self.assertIs(is_valid_labels(answer), True)
                self.assertEqual(len(answer), 5)

    def test_wrong_values(self):
        for function in (refined, joined):
            for value in NOT_LABELS:
                self.refuses(InvalidLabelsError, function, value)
                for place in range(3):
                    arguments = [(0, 1, 1), (0, 0, 1), (0, 1, 2)]
                    arguments[place] = value
                    self.refuses(InvalidLabelsError, function, *arguments)

    def test_no_argument(self):
        self.refuses(MismatchError, refined)
        self.refuses(MismatchError, joined)

    def test_different_lengths(self):
        for function in (refined, joined):
            self.refuses(MismatchError, function, (0,), (0, 0))
            self.refuses(MismatchError, function, (0, 1, 2), (0, 1))
            self.refuses(MismatchError, function, (0, 1), (0, 1), (0, 1, 1))
            self.refuses(MismatchError, function, (0, 1), (0, 0, 0), (0, 1))
            self.refuses(MismatchError, function, FINEST, COARSEST[:11])

    def test_wrong_values_come_before_different_lengths(self):
        for function in (refined, joined):
            for value in NOT_LABELS:
                self.refuses(InvalidLabelsError, function, (0,), (0, 1), value)
                self.refuses(InvalidLabelsError, function, value, (0, 1), (0,))
                self.refuses(InvalidLabelsError, function, (0,), value, (0, 1))


class CellsInterfaceTest(PromiseCase):

    def test_names_and_parameters(self):
        self.has_interface(cells, {
            "is_valid_labels": "(value)",
            "parts_of": "(labels)",
            "refined": "(*partitions)",
            "joined": "(*partitions)",
        })


if __name__ == "__main__":
    unittest.main()
