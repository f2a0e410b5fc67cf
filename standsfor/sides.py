"""Two classes side by side, and what all moves bring of both.

Frames are told by their numbers, from 0 on, in the order in which they came up.
"""

from standsfor.moves import incoming_values
from standsfor.plain import methods_of, words_of
from standsfor.standings import first_standing
from standsfor.within import NONE, Reading, after_answer, after_ask


class Side:
    """One of the two classes, with what was found out of it."""

    def __init__(self, cls, asks, answers):
        self.first = first_standing(cls)
        # The frames by their numbers.
        self.known = []
        self._numbers = {}
        self._reading = Reading(cls)
        self._asks = asks
        self._answers = answers
        self._asked = {}
        self._answered = {}

    def number_of(self, frame):
        """The number of the frame."""
        if frame not in self._numbers:
            self._numbers[frame] = len(self.known)
            self.known.append(frame)
        return self._numbers[frame]

    def asked(self, standing):
        """What comes of each ask at this standing, in the order of the asks."""
        if standing not in self._asked:
            self._asked[standing] = [
                self._numbered(after_ask(self._reading, standing, method, things))
                for method, things in self._asks
            ]
        return self._asked[standing]

    def answered(self, number, standing):
        """What comes of each give and throw to this frame, in their order."""
        key = (number, standing)
        if key not in self._answered:
            frame = self.known[number]
            self._answered[key] = [
                self._numbered(after_answer(self._reading, standing, frame, kind, value))
                for kind, value in self._answers
            ]
        return self._answered[key]

    def _numbered(self, come):
        event, standing, frame = come
        return (event, standing, None if frame is None else self.number_of(frame))


class Sides:
    """Both classes.

    What moves bring is told as a tuple (unlike, ends, waits): whether an event
    is unlike, the list of the pairs at which both methods have ended, and the
    list of the tuples (frame, frame, pair) with which both wait.
    """

    def __init__(self, one, other):
        incoming = incoming_values(sorted(set(words_of(one) + words_of(other))))
        asks = _asks(one, other, incoming)
        answers = [(kind, value) for kind in ("give", "throw") for value in incoming]
        self.one = Side(one, asks, answers)
        self.other = Side(other, asks, answers)
        self._asked = {}

    def first_pair(self):
        """The pair of the first standings."""
        return (self.one.first, self.other.first)

    def asked(self, pair):
        """What all asks bring."""
        if pair not in self._asked:
            self._asked[pair] = _joined(self.one.asked(pair[0]), self.other.asked(pair[1]))
        return self._asked[pair]

    def answered(self, one, other, pair):
        """What all gives and throws to the two frames bring."""
        return _joined(self.one.answered(one, pair[0]), self.other.answered(other, pair[1]))


def _asks(one, other, incoming):
    """The list of all asks, as tuples (method, things)."""
    found = []
    for method in sorted(set(methods_of(one) + methods_of(other))):
        many = max(_many_params(one, method), _many_params(other, method))
        # What comes for no param is never seen again: one value stands for all.
        firsts = incoming if many > 0 else [NONE]
        seconds = incoming if many > 1 else [NONE]
        found.extend([(method, (first, second)) for first in firsts for second in seconds])
    return found


def _many_params(cls, method):
    return len(cls[3][method][0]) if method in cls[3] else 0


def _joined(ones, others):
    """What comes of both, if these come of the one and the other by the same moves."""
    unlike = False
    ends = {}
    waits = {}
    for (event, standing, frame), (other_event, other_standing, other_frame) in zip(ones, others):
        if event != other_event:
            unlike = True
        elif frame is None:
            ends[(standing, other_standing)] = True
        else:
            waits[(frame, other_frame, (standing, other_standing))] = True
    return (unlike, list(ends), list(waits))
