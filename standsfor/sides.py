"""Classes, alone or two side by side, and what all moves bring of them.

What moves bring is told as a tuple (goal, ends, waits): a move that brings the
event that is looked for, or None; and the states at which the methods have
ended and the waits with which they wait, each with a move that brings it.
"""

from standsfor.moves import incoming_values
from standsfor.plain import methods_of, words_of
from standsfor.standings import first_standing
from standsfor.within import NONE, Reading, after_answer, after_ask


class Side:
    """One class, with what was found out of it.

    Frames are told by their numbers, from 0 on, in the order in which they came up.
    """

    def __init__(self, cls, asks, answers):
        self._cls = cls
        self.first = first_standing(cls)
        self.reading = Reading(cls)
        # The frames by their numbers.
        self.known = []
        self._numbers = {}
        self._asks = asks
        self._answers = answers
        self._asked = {}
        self._answered = {}

    def is_of(self, cls, asks, answers):
        """Whether it is that of this class with these moves."""
        return self._asks == asks and self._answers == answers and self._cls == cls

    def number_of(self, frame):
        """The number of the frame."""
        if frame not in self._numbers:
            self._numbers[frame] = len(self.known)
            self.known.append(frame)
        return self._numbers[frame]

    def asked(self, standing):
        """What comes of each ask at this standing, in the order of the asks."""
        if standing not in self._asked:
            self._asked[standing] = [
                self._numbered(after_ask(self.reading, standing, method, (first, second)))
                for _, method, first, second in self._asks
            ]
        return self._asked[standing]

    def answered(self, number, standing):
        """What comes of each give and throw to this frame, in their order."""
        key = (number, standing)
        if key not in self._answered:
            frame = self.known[number]
            self._answered[key] = [
                self._numbered(after_answer(self.reading, standing, frame, kind, value))
                for kind, value in self._answers
            ]
        return self._answered[key]

    def _numbered(self, come):
        event, standing, frame = come
        return (event, standing, None if frame is None else self.number_of(frame))


class Shelf:
    """Where sides are kept, as a class may stand beside many others."""

    def __init__(self):
        self._kept = []

    def side(self, cls, asks, answers):
        """The side of the class with these moves."""
        for kept in self._kept:
            if kept.is_of(cls, asks, answers):
                return kept
        made = Side(cls, asks, answers)
        self._kept.append(made)
        return made


class Sides:
    """Two classes side by side; unlike events are looked for, and nothing goes on behind them.

    Their states are pairs, and their waits tuples (frame, frame, pair).
    """

    def __init__(self, one, other, shelf):
        words = sorted(set(words_of(one) + words_of(other)))
        self._asks = all_asks([one, other], words)
        self._answers = all_answers(words)
        self.one = shelf.side(one, self._asks, self._answers)
        self.other = shelf.side(other, self._asks, self._answers)
        self._asked = {}

    def first_state(self):
        """The pair of the first standings."""
        return (self.one.first, self.other.first)

    def asked(self, pair):
        """What all asks bring."""
        if pair not in self._asked:
            self._asked[pair] = _joined(self._asks, self.one.asked(pair[0]), self.other.asked(pair[1]))
        return self._asked[pair]

    def answered(self, wait, pair):
        """What all gives and throws to the frames of the wait bring."""
        ones = self.one.answered(wait[0], pair[0])
        return _joined(self._answers, ones, self.other.answered(wait[1], pair[1]))


def all_asks(classes, words):
    """The list of all asks, with these words, for the methods that one of the classes has."""
    incoming = incoming_values(words)
    found = []
    for method in sorted(set([method for cls in classes for method in methods_of(cls)])):
        many = max([_many_params(cls, method) for cls in classes])
        # What comes for no param is never seen again: one value stands for all.
        firsts = incoming if many > 0 else [NONE]
        seconds = incoming if many > 1 else [NONE]
        found.extend([("ask", method, first, second) for first in firsts for second in seconds])
    return found


def all_answers(words):
    """The list of all gives and throws with these words."""
    return [(kind, value) for kind in ("give", "throw") for value in incoming_values(words)]


def _many_params(cls, method):
    return len(cls[3][method][0]) if method in cls[3] else 0


def _joined(moves, ones, others):
    """What the moves bring, if these come of the one and the other by them."""
    unlike = None
    ends = {}
    waits = {}
    for move, (event, standing, frame), (other_event, other_standing, other_frame) in zip(moves, ones, others):
        if event != other_event:
            unlike = move
        elif frame is None:
            ends[(standing, other_standing)] = move
        else:
            waits[(frame, other_frame, (standing, other_standing))] = move
    return (unlike, ends, waits)
