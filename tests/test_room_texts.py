"""Tests of wagerroom.rooms: point 110, the texts of rooms."""

import re
import unittest
from fractions import Fraction

from tests.helper import OTHER_KINDS, PromiseCase
from tests.scenery import (
    AGREED, CLASSES, HIDDEN, QUARREL, REDUCED, SAMPLES, SEVERAL, about, numbers, pair_of, room_with, some_labels,
    some_rooms, subsets, weighed,
)
from wagerroom.errors import InvalidTextError
from wagerroom.observers import Believer, Diarist, Observer, Recorder
from wagerroom.rooms import Room

AGREED_TEXT = "3 cases\n0:1/2 1:1/2 | 2:1\n0:1 | 1:1/3 2:2/3"
QUARREL_TEXT = "3 cases\n0:1/2 1:1/2 | 2:1\n0:1 | 1:1/3 2:2/3\n0:1/2 2:1/2 | 1:1"
TWELVE_TEXT = (
    "12 cases\n"
    "0:1/2 10:1/3 11:1/6 | 1:2/9 2:7/9 | 3:1 | 4:1/10 5:1/10 6:1/10 7:7/10 | 8:1 | 9:1\n"
    "0:1/12 1:1/12 2:1/12 3:1/12 4:1/12 5:1/12 6:1/12 7:1/12 8:1/12 9:1/12 10:1/12 11:1/12"
)

GOOD_TEXTS = (
    "1 cases\n0:1",
    "1 cases\n0:1\n0:1\n0:1\n0:1\n0:1\n0:1",
    "2 cases\n0:1/2 1:1/2",
    "2 cases\n0:1 | 1:1",
    "2 cases\n0:1/1000 1:999/1000\n0:1 | 1:1",
    "2 cases\n0:1/" + "9" * 60 + " 1:" + "9" * 59 + "8/" + "9" * 60,
    AGREED_TEXT,
    QUARREL_TEXT,
    TWELVE_TEXT,
    "12 cases\n" + " | ".join(f"{case}:1" for case in range(12)),
)

WRONG_TEXTS = (
    "",
    " ",
    "\n",
    "cases",
    "3",
    "3 cases",
    "3 cases\n",
    "\n3 cases\n0:1/2 1:1/2 | 2:1",
    "0:1/2 1:1/2 | 2:1",
    "0:1/2 1:1/2 | 2:1\n3 cases",
    # Another first line.
    "3  cases\n0:1 | 1:1 | 2:1",
    "3 case\n0:1 | 1:1 | 2:1",
    "1 case\n0:1",
    "3 Cases\n0:1 | 1:1 | 2:1",
    "3cases\n0:1 | 1:1 | 2:1",
    "3 cases \n0:1 | 1:1 | 2:1",
    " 3 cases\n0:1 | 1:1 | 2:1",
    "+3 cases\n0:1 | 1:1 | 2:1",
    "-3 cases\n0:1 | 1:1 | 2:1",
    "03 cases\n0:1 | 1:1 | 2:1",
    "3.0 cases\n0:1 | 1:1 | 2:1",
    "three cases\n0:1 | 1:1 | 2:1",
    "3 cases 0:1 | 1:1 | 2:1",
    "3 cases\n\n0:1 | 1:1 | 2:1",
    # Another number of cases.
    "2 cases\n0:1 | 1:1 | 2:1",
    "4 cases\n0:1 | 1:1 | 2:1",
    "0 cases\n",
    "0 cases",
    "0 cases\n0:1",
    "13 cases\n" + " | ".join(f"{case}:1" for case in range(13)),
    "13 cases\n" + " ".join(f"{case}:1/13" for case in range(13)),
    "12 cases\n" + " | ".join(f"{case}:1" for case in range(13)),
    "12 cases\n" + " | ".join(f"{case}:1" for case in range(11)),
    "3 cases\n0:1 | 1:1 | 2:1\n0:1 | 1:1",
    "3 cases\n0:1 | 1:1\n0:1 | 1:1 | 2:1",
    "3 cases\n0:1 | 1:1 | 2:1\n0:1 | 1:1 | 2:1 | 3:1",
    "2 cases\n0:1 | 1:1\n0:1 | 1:1 | 2:1",
    # Lines.
    AGREED_TEXT + "\n",
    AGREED_TEXT + "\n\n",
    AGREED_TEXT + "\n ",
    AGREED_TEXT.replace("\n", "\n\n"),
    AGREED_TEXT.replace("\n", " "),
    AGREED_TEXT.replace("\n", "\n "),
    AGREED_TEXT.replace("\n", " \n"),
    AGREED_TEXT.replace("\n", "\r\n"),
    AGREED_TEXT + "\n3 cases",
    AGREED_TEXT + "\n" + AGREED_TEXT,
    "1 cases" + "\n0:1" * 7,
    "1 cases" + "\n0:1" * 20,
    "3 cases" + "\n0:1 | 1:1 | 2:1" * 7,
    # Blanks.
    AGREED_TEXT + " ",
    " " + AGREED_TEXT,
    AGREED_TEXT.replace(" | ", "|"),
    AGREED_TEXT.replace(" | ", "| "),
    AGREED_TEXT.replace(" | ", " |"),
    AGREED_TEXT.replace(" | ", "  | "),
    AGREED_TEXT.replace(" | ", " |  "),
    AGREED_TEXT.replace(" | ", " "),
    AGREED_TEXT.replace(":", " : "),
    AGREED_TEXT.replace(":", ": "),
    AGREED_TEXT.replace(":", " :"),
    AGREED_TEXT.replace("/", " / "),
    "3 cases\n0:1/2  1:1/2 | 2:1",
    "3 cases\n0:1/21:1/2 | 2:1",
    "3 cases\n0:1/2\t1:1/2 | 2:1",
    # Bars.
    AGREED_TEXT.replace(" | ", " || "),
    AGREED_TEXT.replace(" | ", " | | "),
    AGREED_TEXT.replace(" | ", " / "),
    AGREED_TEXT + " |",
    AGREED_TEXT + " | ",
    "3 cases\n | 0:1/2 1:1/2 | 2:1",
    "3 cases\n| 0:1/2 1:1/2 | 2:1",
    # Colons.
    AGREED_TEXT.replace(":", "::"),
    AGREED_TEXT.replace(":", ""),
    AGREED_TEXT.replace(":", "="),
    "3 cases\n0:1/2: 1:1/2 | 2:1",
    "3 cases\n0:1:2 1:1/2 | 2:1",
    "3 cases\n:1/2 1:1/2 | 2:1",
    "3 cases\n0: 1:1/2 | 2:1",
    "3 cases\n0 1:1/2 | 2:1",
    # Cases and parts left out, doubled or out of order.
    "3 cases\n0:1/2 1:1/2",
    "3 cases\n0:1 | 2:1",
    "3 cases\n1:1 | 2:1",
    "3 cases\n1:1 | 2:1 | 3:1",
    "3 cases\n0:1/2 1:1/2 | 2:1 | 2:1",
    "3 cases\n0:1/2 1:1/2 | 2:1/2 2:1/2",
    "3 cases\n0:1/3 0:1/3 1:1/3 | 2:1",
    "3 cases\n0:1/2 0:1/2 1:1/2 | 2:1",
    "3 cases\n0:1/2 1:1/2 | 1:1/2 2:1/2",
    "3 cases\n0:1/2 1:1/2 | 0:1 | 2:1",
    "3 cases\n2:1 | 0:1/2 1:1/2",
    "3 cases\n1:1/2 0:1/2 | 2:1",
    "3 cases\n0:1 | 2:1 | 1:1",
    "3 cases\n1:1 | 0:1 | 2:1",
    "3 cases\n0:1/3 2:1/3 1:1/3",
    "3 cases\n0:1/2 1:1/2 | 3:1",
    "3 cases\n0:1/2 1:1/2 | 2:1/2 3:1/2",
    # Numbers of cases.
    "3 cases\n00:1/2 1:1/2 | 2:1",
    "3 cases\n0:1/2 01:1/2 | 2:1",
    "3 cases\n+0:1/2 1:1/2 | 2:1",
    "3 cases\n-0:1/2 1:1/2 | 2:1",
    "3 cases\n0:1/2 -1:1/2 | 2:1",
    "3 cases\n0:1/2 1.0:1/2 | 2:1",
    "3 cases\n0:1/2 a:1/2 | 2:1",
    "3 cases\n0/1:1/2 1:1/2 | 2:1",
    # Fractions.
    "3 cases\n0:2/4 1:1/2 | 2:1",
    "3 cases\n0:1/2 1:1/2 | 2:1/1",
    "3 cases\n0:1/2 1:1/2 | 2:2/2",
    "3 cases\n0:01/2 1:1/2 | 2:1",
    "3 cases\n0:1/02 1:1/2 | 2:1",
    "3 cases\n0:+1/2 1:1/2 | 2:1",
    "3 cases\n0:1/+2 1:1/2 | 2:1",
    "3 cases\n0:-1/-2 1:1/2 | 2:1",
    "3 cases\n0:0.5 1:0.5 | 2:1",
    "3 cases\n0:1/2 1:1/2 | 2:one",
    "3 cases\n0:1/0 1:1/2 | 2:1",
    "3 cases\n0:0 1:1 | 2:1",
    "3 cases\n0:0/1 1:1 | 2:1",
    "3 cases\n0:1 1:0 | 2:1",
    "3 cases\n0:-1/2 1:3/2 | 2:1",
    "3 cases\n0:-1 1:2 | 2:1",
    "3 cases\n0:1/2 1:1/3 | 2:1",
    "3 cases\n0:1/2 1:2/3 | 2:1",
    "3 cases\n0:1/2 1:1/2 | 2:1/2",
    "3 cases\n0:1/2 1:1/2 | 2:2",
    "3 cases\n0:1/2 1:1/2 | 2:-1",
    "3 cases\n0:1/2 1:1/2 | 2:0",
    "3 cases\n0:1/3 1:1/3 | 2:1/3",
    # Texts of other things.
    "1/2",
    "0:1",
    "3 cases\n0:1/2 1:1/2 | 2:1\n?",
    "3 cases\n0:1/2 1:1/2 | 2:1\n0,1 | 2",
    "3 cases\n" + "a" * 500,
    "3 cases\n" + " " * 500,
    "3 cases\n" + "|" * 500,
    "3 cases" + "\n" * 500,
    "3 cases\n" + ":" * 500,
    "9" * 590 + " cases\n0:1",
    "1 cases\n0:" + "9" * 590,
)


def is_fraction_text(text):
    found = re.fullmatch(r"(0|[1-9][0-9]*)(/(0|[1-9][0-9]*))?", text)
    if not found or found[3] in ("0", "1"):
        return False
    return found[3] is None or pair_of(Fraction(int(found[1]), int(found[3]))) == (int(found[1]), int(found[3]))


def is_line(line, many):
    """Whether this is the line of an observer, by the words of point 110."""
    parts = [part.split(" ") for part in line.split(" | ")]
    entries = [entry.split(":") for part in parts for entry in part]
    if not all(len(entry) == 2 and is_fraction_text(entry[1]) for entry in entries):
        return False
    if sorted(entry[0] for entry in entries) != sorted(map(str, range(many))):
        return False
    cases = [[int(entry.split(":")[0]) for entry in part] for part in parts]
    if cases != sorted(map(sorted, cases)):
        return False
    sums = [[Fraction(entry.split(":")[1]) for entry in part] for part in parts]
    return all(min(odds) > 0 and sum(odds) == 1 for odds in sums)


def is_room_text(text):
    """Whether this is the text of a room, by the words of point 110."""
    first, *lines = text.split("\n")
    found = re.fullmatch(r"([1-9][0-9]?) cases", first)
    if not found or int(found[1]) > 12 or not 1 <= len(lines) <= 6:
        return False
    return all(is_line(line, int(found[1])) for line in lines)


def nearly(text):
    """Texts that differ from this one by a sign, a word or a line left out, doubled, moved or put in."""
    for sign in (None, " ", "\n", "|", ":"):
        pieces = list(text) if sign is None else text.split(sign)
        glue = "" if sign is None else sign
        for at in range(len(pieces)):
            yield glue.join(pieces[:at] + pieces[at + 1:])
            yield glue.join(pieces[:at + 1] + pieces[at:])
            yield glue.join(pieces[:at] + pieces[at:at + 2][::-1] + pieces[at + 2:])
            yield glue.join(pieces[:at] + pieces[at + 1:] + pieces[at:at + 1])
    for at in range(len(text) + 1):
        for put in " \n|:/-+0123456789.c":
            yield text[:at] + put + text[at:]
            yield text[:at] + put + text[at + 1:]


class TextTest(PromiseCase):
    """Point 110: text."""

    def test_examples(self):
        self.gives(AGREED_TEXT, about(AGREED, "text"))
        self.gives(QUARREL_TEXT, about(QUARREL, "text"))
        self.gives("1 cases\n0:1", about(Room(Observer.even((0,))), "text"))

    def test_absent_cases_are_written_too(self):
        self.gives("4 cases\n0:1/4 1:1/4 3:1/2 | 2:1\n0:1/2 3:1/2 | 1:1/3 2:2/3\n0:1/2 2:1/2 | 1:1 | 3:1",
                   about(HIDDEN, "text"))
        for room in SAMPLES:
            whole = room_with(*room.observers)
            for cases in subsets(whole.cases)[1:]:
                self.gives(whole.text(), about(room_with(*room.observers, cases=cases), "text"))

    def test_all_classes(self):
        room = Room(
            Believer((0, 1, 0), (1, 7, 3)),
            Diarist((0, 0, 0), (1, 2, 3)),
            Recorder((0, 1, 2), ((1, 1),) * 3),
            Observer.even((0, 0, 1)),
        )
        room.observers[1].report(())
        wanted = (
            "3 cases\n0:1/4 2:3/4 | 1:1\n0:1/6 1:1/3 2:1/2\n0:1 | 1:1 | 2:1\n0:1/2 1:1/2 | 2:1"
        )
        self.gives(wanted, about(room, "text"))

    def test_one_to_six_observers_and_one_to_twelve_cases(self):
        source = numbers(41)
        for many in range(1, 13):
            for count in range(1, 7):
                found = [
                    weighed(some_labels(source, many), [next(source) % 1000 + 1 for _ in range(many)],
                            CLASSES[next(source) % 4])
                    for _ in range(count)
                ]
                room = room_with(*found, cases=(next(source) % many,))
                lines = room.text().split("\n")
                self.assertEqual(lines[0], f"{many} cases")
                self.assertEqual(len(lines), count + 1)
                self.assertTrue(is_room_text(room.text()))
                self.there_and_back(room)

    def there_and_back(self, room):
        again = Room.read(room.text())
        self.assertIs(type(again), Room)
        self.assertTrue(again.same_as(room_with(*room.observers)))
        self.assertEqual([type(observer) for observer in again.observers], [Observer] * len(room.observers))
        self.assertEqual(again.cases, tuple(range(len(room.observers[0].labels))))
        self.gives(room.text(), again.text)

    def test_rooms_there_and_back(self):
        for room in some_rooms(42, 60, cases=12, observers=6):
            self.there_and_back(room)

    def test_odds_of_any_size(self):
        huge = 10 ** 5000
        room = Room(Observer((0, 0), ((1, huge), (huge - 1, huge))))
        self.assertEqual(room.text(), "2 cases\n0:1/1" + "0" * 5000 + " 1:" + "9" * 5000 + "/1" + "0" * 5000)
        self.there_and_back(room)


class ReadTest(PromiseCase):
    """Point 110: read."""

    def reads(self, text):
        room = Room.read(text)
        self.assertIs(type(room), Room)
        self.assertTrue(all(type(observer) is Observer for observer in room.observers))
        self.assert_alike(room.cases, tuple(range(len(room.observers[0].labels))))
        self.assert_alike(room.text(), text)

    def test_examples(self):
        room = Room.read(AGREED_TEXT)
        self.assert_alike([observer.labels for observer in room.observers], [(0, 0, 1), (0, 1, 1)])
        self.assert_alike(room.observers[0].odds, ((1, 2), (1, 2), (1, 1)))
        self.assert_alike(room.observers[1].odds, ((1, 1), (1, 3), (2, 3)))
        self.assertTrue(room.same_as(AGREED))
        self.assertTrue(Room.read(QUARREL_TEXT).same_as(QUARREL))
        self.assert_alike(Room.read(SEVERAL.text()).regions, SEVERAL.regions)
        self.assert_alike(Room.read(REDUCED.text()).cases, (0, 1, 2, 3))

    def test_good_texts(self):
        for text in GOOD_TEXTS:
            self.assertTrue(is_room_text(text))
            self.reads(text)

    def test_each_call_gives_a_new_room(self):
        one, other = Room.read(AGREED_TEXT), Room.read(AGREED_TEXT)
        self.assertTrue(one.same_as(other))
        one.cases = (0,)
        one.observers[0].odds = ((1, 3), (2, 3), (1, 1))
        self.assert_alike(other.cases, (0, 1, 2))
        self.assert_alike(other.text(), AGREED_TEXT)

    def test_wrong_texts(self):
        for text in WRONG_TEXTS:
            self.assertFalse(is_room_text(text), text)
            self.refuses(InvalidTextError, Room.read, text)

    def test_texts_that_are_nearly_right(self):
        counts = {True: 0, False: 0}
        for text in GOOD_TEXTS[:5] + (AGREED_TEXT, QUARREL_TEXT, TWELVE_TEXT):
            for other in dict.fromkeys(nearly(text)):
                good = is_room_text(other)
                counts[good] += 1
                if good:
                    self.reads(other)
                else:
                    with self.assertRaises(InvalidTextError, msg=other):
                        Room.read(other)
        self.assertGreater(counts[True], 20)
        self.assertGreater(counts[False], 5000)

    def test_values_that_are_no_texts(self):
        for value in OTHER_KINDS + (0, 3, AGREED_TEXT.split("\n"), tuple(AGREED_TEXT.split("\n")), {AGREED_TEXT: 0},
                                    [AGREED_TEXT], AGREED_TEXT.encode()):
            self.refuses(InvalidTextError, Room.read, value)

    def test_digits_that_are_not_ascii(self):
        for text in ("\u0663 cases\n0:1 | 1:1 | 2:1", "1 cases\n\u0660:1", "1 cases\n0:\u0661", "1 cases\n0:\u00b9"):
            self.refuses(InvalidTextError, Room.read, text)


if __name__ == "__main__":
    unittest.main()
