"""Standings of a plain class that nothing tells apart."""

from standsfor.alone import Alone
from standsfor.checks import check_most, check_plain
from standsfor.growth import grown
from standsfor.ones import Closure, Ones
from standsfor.plain import words_of
from standsfor.sides import Shelf, Sides
from standsfor.solids import is_solid
from standsfor.standings import standings

# How deep the tuple of two frames is nested.
DEEPEST_FRAMES = 7


class Judge:
    """Looks whether a merge is closed."""

    def __init__(self, cls, merge):
        self._sides = Sides(cls, cls, Shelf())
        side = self._sides.one
        self._pairs = {pair: True for pair in merge[0]}
        self._frames = {(side.number_of(one), side.number_of(other)): True for one, other in merge[1]}
        self._asked_for = {}
        self._new_frames = []

    def accepts(self):
        """Whether all that its moves ask for is in it, and no other frames."""
        # Then all that comes of the first standing is in it, too.
        if self._sides.first_state() not in self._pairs:
            return False
        if not all([self._holds(self._sides.asked(pair)) for pair in self._pairs]):
            return False
        while self._new_frames:
            frames = self._new_frames.pop()
            if not all([self._holds(self._sides.answered(frames, pair)) for pair in self._pairs]):
                return False
        return len(self._asked_for) == len(self._frames)

    def _holds(self, come):
        """Whether what comes of some moves is alike and in the merge; notes the frames."""
        unlike, ends, waits = come
        if unlike is not None or not all([end in self._pairs for end in ends]):
            return False
        for one, other, pair in waits:
            frames = (one, other)
            if pair not in self._pairs or frames not in self._frames:
                return False
            if frames not in self._asked_for:
                self._asked_for[frames] = True
                self._new_frames.append(frames)
        return True


def come_to(cls, *, most=2000):
    """The ascending list of the standings in which a thing is while its surroundings are at work."""
    return _standings_of(_grown_alone(cls, most)[1])


def waiting(cls, *, most=2000):
    """The list of all frames that can wait."""
    alone, growth = _grown_alone(cls, most)
    numbers = {number: True for number, _ in growth.groups}
    return [alone.side.known[number] for number in numbers]


def groups(cls, *, most=2000):
    """The ascending list of the tuples of the standings that are one."""
    alone, growth = _grown_alone(cls, most)
    ones = Ones(alone.side, Closure(alone.side, most))
    found = []
    for standing in _standings_of(growth):
        _put(standing, found, ones)
    return [tuple(group) for group in found]


def is_merge(cls, thing):
    """Whether it is a closed merge of a plain class."""
    check_plain(cls)
    known = {standing: True for standing in standings(cls)}
    return _has_form_of_merge(thing, known) and Judge(cls, thing).accepts()


def trimmed(cls, *, most=2000):
    """The class in which each field has only those words that it has at some time in some play."""
    alone, _ = _grown_alone(cls, most)
    given = alone.side.reading.given
    parent, mark, fields, methods = cls
    had = {
        field: tuple([word for word in words if word == words[0] or (field, word) in given])
        for field, words in fields.items()
    }
    return (parent, mark, had, dict(methods))


def idle_fields(cls, *, most=2000):
    """The ascending list of the fields that make no difference where all others are the same."""
    found = groups(cls, most=most)
    return [field for index, field in enumerate(sorted(cls[2])) if _is_idle(index, found)]


def _grown_alone(cls, most):
    """The class alone, and all that comes of it; errors as those of come_to."""
    check_plain(cls)
    check_most(most)
    alone = Alone(cls, words_of(cls), None)
    return (alone, grown(alone, most))


def _standings_of(growth):
    return sorted(set([standing for level in growth.levels.values() for standing in level.states]))


def _put(standing, found, ones):
    """Puts the standing into the group of those that are one with it, or into a new one."""
    for group in found:
        if ones.join(group[0], standing):
            group.append(standing)
            return
    found.append([standing])


def _is_idle(index, found):
    """Whether all standings that differ in the word at the index alone are in one of these groups."""
    seen = {}
    for number, group in enumerate(found):
        for standing in group:
            if seen.setdefault(standing[:index] + standing[index + 1:], number) != number:
                return False
    return True


def _has_form_of_merge(thing, known):
    """Whether it is a merge, if these are the standings; what its frames are is not asked."""
    if not isinstance(thing, tuple) or len(thing) != 2:
        return False
    pairs, frames = thing
    if not isinstance(pairs, list) or not isinstance(frames, list):
        return False
    if not all([_is_two(pair, 2) and pair[0] in known and pair[1] in known for pair in pairs]):
        return False
    return all([_is_two(part, DEEPEST_FRAMES) for part in frames])


def _is_two(thing, deep):
    return isinstance(thing, tuple) and len(thing) == 2 and is_solid(thing, deep)
