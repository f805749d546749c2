"""Rooms: several observers of the same cases, some of which are present."""

from wagerroom.cells import joined, labelled, parts_of
from wagerroom.errors import (
    EmptyEventError, InvalidEventError, InvalidGroupError, InvalidQuestionError, InvalidRoomError, InvalidTextError,
)
from wagerroom.events import check_event
from wagerroom.kinds import is_number_of
from wagerroom.lines import line_of, observers_in
from wagerroom.observers import Observer
from wagerroom.ratios import quotient, total_at
from wagerroom.sources import source
from wagerroom.wagers import wager

# Each question with the number of its arguments.
QUESTIONS = {"cases": 0, "regions": 0, "present_odds": 1, "source": 1, "wager": 1}


def check_observers(observers):
    """Raise InvalidRoomError if there is no room of the observers."""
    if not 1 <= len(observers) <= Room.MOST_OBSERVERS:
        raise InvalidRoomError("there must be 1 to 6 observers")
    if not all([isinstance(observer, Observer) for observer in observers]):
        raise InvalidRoomError("one of the values is not an observer")
    for observer in observers:
        if len(observer.labels) != len(observers[0].labels):
            raise InvalidRoomError("the observers have different numbers of cases")


def regions_among(observers, cases):
    """Return the tuple of the regions of these present cases."""
    rows = [labelled([observer.labels[case] for case in cases]) for observer in observers]
    return tuple([tuple([cases[place] for place in part]) for part in parts_of(joined(*rows))])


def check_question(question, arguments):
    """Raise InvalidQuestionError if there is no such question with so many arguments."""
    if not isinstance(question, str) or question not in QUESTIONS:
        raise InvalidQuestionError("not one of the questions")
    if len(arguments) != QUESTIONS[question]:
        raise InvalidQuestionError("too many or too few arguments for the question")


def answered(room, question, arguments):
    """Return the answer of the room to a question."""
    if question == "cases":
        return room.cases
    if question == "regions":
        return room.regions
    if question == "present_odds":
        return room.present_odds(*arguments)
    if question == "source":
        return source(room, *arguments)
    return wager(room, *arguments)


class Room:
    """A room of 1 to 6 observers, in which some of the cases are present, at first all."""

    MOST_OBSERVERS = 6

    def __init__(self, *observers):
        check_observers(observers)
        self.observers = observers
        self.cases = tuple(range(len(observers[0].labels)))

    @classmethod
    def read(cls, text):
        """Return the room of Observers that any value is the text of."""
        if not isinstance(text, str):
            raise InvalidTextError("not a text")
        observers = observers_in(text)
        try:
            room = cls(*observers)
        except InvalidRoomError:
            raise InvalidTextError("too many or too few observers") from None
        # A room has only one text, which rules out other ways to write it.
        if room.text() != text:
            raise InvalidTextError("not the text of a room")
        return room

    def text(self):
        """Return the text of the observers, whichever cases are present."""
        lines = [line_of(observer) for observer in self.observers]
        return "\n".join([f"{len(self.observers[0].labels)} cases", *lines])

    @property
    def cases(self):
        """The present cases in ascending order."""
        return self.held_cases

    @cases.setter
    def cases(self, value):
        check_event(value, len(self.observers[0].labels))
        if len(value) == 0:
            raise InvalidEventError("at least one case must be present")
        self.held_cases = value
        # Nothing else changes the regions: the labels of an observer stay.
        self.regions = regions_among(self.observers, value)

    def assign_cases(self, event):
        """Assign the present cases."""
        self.cases = event

    def present_odds(self, number):
        """Return the present odds of an observer, one fraction for each present case."""
        self.check_number(number)
        observer = self.observers[number]
        inside = [[case for case in part if case in self.cases] for part in observer.parts]
        wholes = [total_at(observer.odds, part) for part in inside]
        return tuple([quotient(observer.odds[case], wholes[observer.labels[case]]) for case in self.cases])

    def check_number(self, number):
        """Raise InvalidGroupError if any value is not the number of an observer."""
        if not is_number_of(number, len(self.observers)):
            raise InvalidGroupError("not the number of an observer")

    def only(self, *numbers):
        """Return a new room with the observers of these numbers and the same present cases."""
        for number in numbers:
            self.check_number(number)
        if len(numbers) == 0 or len(set(numbers)) != len(numbers):
            raise InvalidGroupError("not different numbers of observers, at least one")
        chosen = [self.observers[number] for number in numbers]
        room = Room(*chosen)
        room.assign_cases(self.cases)
        return room

    def supposed(self, events, question, *arguments):
        """Answer a question as if only the present cases in all of the events were present."""
        if not isinstance(events, tuple):
            raise InvalidEventError("not a tuple of events")
        left = self.cases
        for event in events:
            check_event(event, len(self.observers[0].labels))
            left = tuple([case for case in left if case in event])
        check_question(question, arguments)
        if len(left) == 0:
            raise EmptyEventError("no present case is in all of the events")
        # Another room is asked, so that the cases of this one stay whatever happens.
        room = Room(*self.observers)
        room.assign_cases(left)
        return answered(room, question, arguments)

    def same_as(self, other):
        """Return whether any value is a room with the same present cases and observers."""
        if not isinstance(other, Room) or self.cases != other.cases:
            return False
        if len(self.observers) != len(other.observers):
            return False
        return all([one.same_as(another) for one, another in zip(self.observers, other.observers)])
