"""Runs of whole programs."""

from standsfor.checks import check_most
from standsfor.errors import BadProgram, TooLong
from standsfor.machine import Machine
from standsfor.programs import Program

MOST_CALLS = 200


def run(program, *, most=20000):
    """The tuple (lines, end) of what the program prints and how it ends."""
    if not isinstance(program, Program):
        raise BadProgram("program")
    check_most(most)
    machine = Machine(program)
    while machine.ending is None:
        if machine.steps == most:
            raise TooLong(most)
        machine.step()
        if machine.deepest > MOST_CALLS:
            raise TooLong(most)
    return (machine.printed, machine.ending)


def is_run(program, lines, end):
    """Whether a run of the program tells these lines and this end."""
    printed, ending = run(program)
    return printed == lines and ending == end
