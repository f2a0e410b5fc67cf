"""What can ever come of a thing of a plain class."""

from standsfor.alone import Alone
from standsfor.checks import check_most, check_plain
from standsfor.errors import BadEvent, BadName, BadWords, TooMany
from standsfor.events import is_event
from standsfor.growth import grown
from standsfor.moves import are_words
from standsfor.names import is_name
from standsfor.plain import words_of
from standsfor.routes import Routes
from standsfor.texts import event_text
from standsfor.within import NONE

NO_METHOD = ("throws", ("word", "nomethod"))
# One more than a class can have.
SOME_NAMES = ("a", "b", "c", "d", "e", "f")


def ever(cls, words, event, *, most=2000):
    """Some row of the fewest moves whose last event is this one, None if it never comes."""
    if not are_words(words, words_of(cls)):
        raise BadWords(words)
    if not is_event(event):
        raise BadEvent(event)
    check_most(most)
    alone = Alone(cls, words, event)
    growth = grown(alone, most)
    if event == NO_METHOD:
        return [("ask", [name for name in SOME_NAMES if name not in cls[3]][0], NONE, NONE)]
    if not growth.has_goal:
        return None
    routes = Routes(alone)
    if routes.fewest() > most:
        raise TooMany(most)
    return routes.row()


def shown(cls, method, *, most=2000):
    """The ascending list of the texts of the events that can come between an ask of a method and its end."""
    return sorted(set([event_text(event) for event in _events_of(cls, method, most)]))


def never_fails(cls, method, *, most=2000):
    """Whether an ask of the method never throws."""
    return all([event[0] != "throws" for event in _events_of(cls, method, most)])


def _events_of(cls, method, most):
    """All events of shown, each at least once."""
    check_plain(cls)
    if not is_name(method) or method not in cls[3]:
        raise BadName(method)
    check_most(most)
    alone = Alone(cls, words_of(cls), None)
    growth = grown(alone, most)
    found = {}
    for level in growth.levels.values():
        for standing in level.states:
            for move, come in zip(alone.asks, alone.side.asked(standing)):
                if move[1] == method:
                    found[come[0]] = True
    for group in growth.groups.values():
        inner, _ = alone.side.known[group.wait[0]]
        # The outermost one is the method that was asked.
        if inner[0][0] == method:
            for standing in group.level.states:
                for come in alone.side.answered(group.wait[0], standing):
                    found[come[0]] = True
    return list(found)
