"""Tables: whether nothing tells two plain classes apart, and what shows it."""

from standsfor.checks import check_most, check_of_one_mark, check_plain
from standsfor.errors import TooMany
from standsfor.growth import Growth, grown
from standsfor.sides import Shelf, Sides
from standsfor.solids import is_solid
from standsfor.standings import standings

# How deep the tuples of a wait are nested.
DEEPEST_WAIT = 7


def alike(one, other, *, most=2000):
    """Whether either of two plain classes of one mark can stand for the other in every program."""
    check_of_one_mark(one, other)
    check_most(most)
    return not grown(Sides(one, other, Shelf()), most).has_goal


def alike_without_heirs(one, other, *, most=2000):
    """Whether two plain classes are alike where both are closed."""
    check_plain(one)
    check_plain(other)
    check_most(most)
    return not grown(Sides(_closed(one), _closed(other), Shelf()), most).has_goal


def table(one, other, *, most=2000):
    """The least closed table for two plain classes of one mark; None if they are not alike."""
    check_of_one_mark(one, other)
    check_most(most)
    sides = Sides(one, other, Shelf())
    growth = grown(sides, most)
    if growth.has_goal:
        return None
    levels = [(level.state, list(level.states)) for level in growth.levels.values()]
    waits = [
        (sides.one.known[frame], sides.other.known[other_frame], pair, begin)
        for (frame, other_frame, pair), begin in growth.all_waits()
    ]
    return (levels, waits)


def is_table(one, other, thing):
    """Whether it is a closed table for two plain classes of one mark."""
    check_of_one_mark(one, other)
    if not _has_form_of_table(thing, standings(one), standings(other)):
        return False
    sides = Sides(one, other, Shelf())
    levels = {pair: {held: True for held in pairs} for pair, pairs in thing[0]}
    waits = {_numbered(wait, sides): True for wait in thing[1]}
    if len(levels) != len(thing[0]) or sides.first_state() not in levels:
        return False
    # If its levels are closed, nothing more comes of them than it has.
    growth = Growth(sides, sum([len(pairs) for pairs in levels.values()]), len(waits))
    try:
        _give_levels(growth, levels)
        growth.grow()
    except TooMany:
        return False
    if growth.has_goal:
        return False
    asked_for = growth.all_waits()
    return len(asked_for) == len(waits) and all([wait in waits for wait in asked_for])


def _closed(cls):
    return (cls[0], "closed", cls[2], cls[3])


def _give_levels(growth, levels):
    for pair, pairs in levels.items():
        level = growth.level_of(pair)
        for held in pairs:
            growth.add_state(level, held)


def _has_form_of_table(thing, ones, others):
    """Whether it is a table, if these are the standings; what its frames are is not asked."""
    if not isinstance(thing, tuple) or len(thing) != 2:
        return False
    levels, waits = thing
    if not isinstance(levels, list) or not isinstance(waits, list):
        return False
    known = {(one, other): True for one in ones for other in others}
    return all([_is_level(level, known) for level in levels]) and all([_is_wait(wait) for wait in waits])


def _is_level(thing, known):
    if not isinstance(thing, tuple) or len(thing) != 2 or not isinstance(thing[1], list):
        return False
    return all([is_solid(pair, DEEPEST_WAIT) and pair in known for pair in [thing[0]] + thing[1]])


def _is_wait(thing):
    return isinstance(thing, tuple) and len(thing) == 4 and is_solid(thing, DEEPEST_WAIT)


def _numbered(wait, sides):
    one, other, pair, begin = wait
    return ((sides.one.number_of(one), sides.other.number_of(other), pair), begin)
