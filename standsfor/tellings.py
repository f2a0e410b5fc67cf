"""Programs that tell two classes apart, and where runs part."""

from standsfor.aparts import routes_apart
from standsfor.checks import check_of_one_mark
from standsfor.errors import BadName, TooLong
from standsfor.names import is_name
from standsfor.programs import Program, with_class
from standsfor.rowing import Rower
from standsfor.runs import run

MOST_MOVES = 20
MOST_STEPS = 20000


def telling(one, other, *, most=2000):
    """Some program that has the one as "box" and prints something else with the other; None if alike."""
    routes = routes_apart(one, other, most)
    if routes is None:
        return None
    if routes.fewest() > MOST_MOVES:
        raise TooLong(MOST_STEPS)
    program = Rower(one, other, routes.row()).program()
    # TooLong is raised if one of the runs is too long or too deep.
    run(program)
    run(with_class(program, "box", other))
    return program


def is_telling(one, other, thing):
    """Whether it is a program that telling can tell."""
    check_of_one_mark(one, other)
    if not isinstance(thing, Program) or thing.classes.get("box") != one:
        return False
    try:
        lines, _ = run(thing)
        others, _ = run(with_class(thing, "box", other))
    except TooLong:
        return False
    return lines != others


def parts(program, name, cls):
    """The first line at which the run parts if the class is exchanged, None if they tell the same."""
    if not is_name(name) or name not in program.classes:
        raise BadName(name)
    changed = with_class(program, name, cls)
    lines, end = run(program)
    others, other_end = run(changed)
    for index, (line, other) in enumerate(zip(lines, others)):
        if line != other:
            return index
    if len(lines) == len(others) and end == other_end:
        return None
    return min(len(lines), len(others))
