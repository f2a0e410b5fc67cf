"""One class alone, and what all moves bring of it.

It tells what moves bring as standsfor.sides does.
"""

from standsfor.sides import Side, all_answers, all_asks


class Alone:
    """A class that is played with some words; an event may be looked for.

    Its states are standings, and its waits tuples (frame, standing).
    """

    def __init__(self, cls, words, event):
        self.asks = all_asks([cls], words)
        self.answers = all_answers(words)
        self.side = Side(cls, self.asks, self.answers)
        # None if none is looked for.
        self._event = event
        self._asked = {}

    def first_state(self):
        """The first standing."""
        return self.side.first

    def asked(self, standing):
        """What all asks bring."""
        if standing not in self._asked:
            self._asked[standing] = self._told(self.asks, self.side.asked(standing))
        return self._asked[standing]

    def answered(self, wait, standing):
        """What all gives and throws to the frame of the wait bring."""
        return self._told(self.answers, self.side.answered(wait[0], standing))

    def _told(self, moves, comes):
        goal = None
        ends = {}
        waits = {}
        for move, (event, standing, frame) in zip(moves, comes):
            if event == self._event:
                goal = move
            if frame is None:
                ends[standing] = move
            else:
                waits[(frame, standing)] = move
        return (goal, ends, waits)
