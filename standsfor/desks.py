"""A desk on which programs are kept by names."""

from standsfor.errors import BadName, BadProgram, NothingDone
from standsfor.exchange import exchanged, fewer_classes
from standsfor.names import is_name
from standsfor.programs import Program
from standsfor.runs import run


class Desk:
    """Programs by their names, and what was done with them."""

    def __init__(self):
        # This dict is never changed: each deed puts a new one in its place.
        self._programs = {}
        # What there was ahead of each deed that is not taken back.
        self._past = []

    def __eq__(self, other):
        return isinstance(other, Desk) and self._programs == other._programs

    def put(self, name, program):
        """Puts a program under a name that is free."""
        if not is_name(name) or name in self._programs:
            raise BadName(name)
        if not isinstance(program, Program):
            raise BadProgram("program")
        self._become({**self._programs, name: program})

    def drop(self, name):
        """Takes away the program of this name."""
        self._check_there(name)
        self._become({other: program for other, program in self._programs.items() if other != name})

    def exchange(self, name, cls_name, cls):
        """Puts another class, to which that of the program is alike, in its place."""
        self._check_there(name)
        self._become({**self._programs, name: exchanged(self._programs[name], cls_name, cls)})

    def lessen(self, name):
        """Leaves out the classes of the program for which another one can stand."""
        self._check_there(name)
        self._become({**self._programs, name: fewer_classes(self._programs[name])})

    def undo(self):
        """Takes back the last deed that is not taken back."""
        if not self._past:
            raise NothingDone()
        self._programs = self._past.pop()

    def names(self):
        """The ascending list of the names."""
        return sorted(self._programs)

    def program(self, name):
        """The program of this name."""
        self._check_there(name)
        return self._programs[name]

    def lines(self, name):
        """The list of what the run of the program prints."""
        self._check_there(name)
        printed, _ = run(self._programs[name])
        return printed

    def trying(self, action):
        """What the action returns for the desk, on which everything is put back to what it was."""
        programs = self._programs
        past = list(self._past)
        try:
            return action(self)
        finally:
            self._programs = programs
            self._past = past

    def _check_there(self, name):
        if not is_name(name) or name not in self._programs:
            raise BadName(name)

    def _become(self, programs):
        self._past.append(self._programs)
        self._programs = programs
