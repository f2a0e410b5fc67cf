"""Rows of moves that tell two plain classes apart."""

from standsfor.checks import check_most, check_of_one_mark
from standsfor.errors import BadMove, TooMany
from standsfor.growth import grown
from standsfor.plain import words_of
from standsfor.plays import Play
from standsfor.routes import Routes
from standsfor.sides import Shelf, Sides


def apart(one, other, *, most=2000):
    """Some list of moves that tells the classes apart, None if they are alike."""
    routes = routes_apart(one, other, most)
    if routes is None:
        return None
    if routes.fewest() > most:
        raise TooMany(most)
    return routes.row()


def is_apart(one, other, thing):
    """Whether it is a list of moves that tells the classes apart."""
    check_of_one_mark(one, other)
    if not isinstance(thing, list) or len(thing) == 0:
        return False
    words = sorted(set(words_of(one) + words_of(other)))
    plays = [Play(one, words), Play(other, words)]
    try:
        alike = [_are_alike_behind(plays, move) for move in thing]
    except BadMove:
        return False
    return not alike[-1] and all(alike[:-1])


def fewest_moves(one, other, *, most=2000):
    """The least number of moves that tell the classes apart, None if they are alike."""
    routes = routes_apart(one, other, most)
    return None if routes is None else routes.fewest()


def routes_apart(one, other, most):
    """The routes to what tells the classes apart, None if they are alike; errors as those of alike."""
    check_of_one_mark(one, other)
    check_most(most)
    sides = Sides(one, other, Shelf())
    return Routes(sides) if grown(sides, most).has_goal else None


def _are_alike_behind(plays, move):
    """Makes the move in both plays: whether the events are alike."""
    events = [play.move(move) for play in plays]
    return events[0] == events[1]
