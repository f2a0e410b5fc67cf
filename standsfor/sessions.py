"""Sessions: runs that are done step by step, and taken back."""

from standsfor.errors import BadNumber, Ended, NothingDone
from standsfor.machine import Machine
from standsfor.names import is_integer
from standsfor.values import is_given_by, told, value_behind


class Session:
    """A place in the run of a program.

    A run has but one way to go. So the machine never goes back: the session
    remembers what there was to see behind each step, and how many are done.
    """

    def __init__(self, program):
        self._machine = Machine(program)
        # By the number of steps: the statement ahead, the innermost call, and
        # how many lines there are.
        self._sights = []
        self._see()
        self._done = 0

    def __len__(self):
        # A length may only be handed on from another one.
        return len(range(self._done))

    def step(self):
        """Does a step, and returns the list of what was printed."""
        if self._is_ended():
            raise Ended()
        self._go_on()
        return self._lines_since(self._done - 1)

    def back(self):
        """Takes the last step back."""
        if self._done == 0:
            raise NothingDone()
        self._done -= 1

    def lines(self):
        """The list of all that was printed."""
        return self._lines_since(None)

    def end(self):
        """How the run ended, None if it has not."""
        return self._machine.ending if self._is_ended() else None

    def at(self):
        """The statement ahead, None at the end."""
        return self._sights[self._done][0]

    def depth(self):
        """How many calls are under way."""
        return self._sights[self._done][1].number

    def names(self):
        """The names of the innermost surroundings, with what print has for their values."""
        pasts = self._sights[self._done][1].surroundings.pasts
        return {
            name: told(value_behind(past, self._done))
            for name, past in pasts.items()
            if is_given_by(past, self._done)
        }

    def fields(self):
        """The fields that the text there may name, with their words."""
        call = self._sights[self._done][1]
        if call.thing is None:
            return {}
        return {
            field: value_behind(past, self._done)
            for (text, field), past in call.thing.pasts.items()
            if text == call.text
        }

    def run(self, many):
        """Does at most so many steps, and returns the list of what was printed."""
        if not is_integer(many) or many < 0:
            raise BadNumber(many)
        began = self._done
        while self._done - began < many and not self._is_ended():
            self._go_on()
        return self._lines_since(began)

    def trying(self, action):
        """What the action returns for the session, which is put back to where it was."""
        held = self._done
        try:
            return action(self)
        finally:
            self._done = held

    def _is_ended(self):
        return self._sights[self._done][0] is None

    def _go_on(self):
        if self._done + 1 == len(self._sights):
            self._machine.step()
            self._see()
        self._done += 1

    def _see(self):
        machine = self._machine
        self._sights.append((machine.ahead(), machine.innermost(), len(machine.printed)))

    def _lines_since(self, step):
        start = 0 if step is None else self._sights[step][2]
        return self._machine.printed[start:self._sights[self._done][2]]
