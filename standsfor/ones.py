"""Standings that are one, and all that has to be looked at for it."""

from standsfor.errors import TooMany


class Closure:
    """All standings and frames that come up if each frame may go on from each standing.

    They are, with themselves, the least closed merge. TooMany is raised if the
    square of the number of either is above the bound.
    """

    def __init__(self, side, most):
        self._side = side
        self._most = most
        self.standings = []
        # The numbers of the frames.
        self.numbers = []
        self._held = {}
        self._new_standings = [side.first]
        self._new_numbers = []
        while self._new_standings or self._new_numbers:
            if self._new_standings:
                self._add_standing(self._new_standings.pop())
            else:
                self._add_number(self._new_numbers.pop())

    def _add_standing(self, standing):
        if self._is_new(standing, self.standings):
            self._take(self._side.asked(standing))
            for number in self.numbers:
                self._take(self._side.answered(number, standing))

    def _add_number(self, number):
        if self._is_new(number, self.numbers):
            for standing in self.standings:
                self._take(self._side.answered(number, standing))

    def _is_new(self, thing, things):
        if thing in self._held:
            return False
        self._held[thing] = True
        things.append(thing)
        if len(things) * len(things) > self._most:
            raise TooMany(self._most)
        return True

    def _take(self, comes):
        for _, standing, number in comes:
            if standing not in self._held:
                self._new_standings.append(standing)
            if number is not None and number not in self._held:
                self._new_numbers.append(number)


class Ones:
    """Which standings, and which frames, are known to be one with which."""

    def __init__(self, side, closure):
        self._side = side
        self._closure = closure
        # By standing or number of a frame: one that is one with it, and nearer
        # to the leader of all of these, which is no key.
        self._leaders = {}

    def join(self, one, other):
        """Whether two standings are one; all that comes of it is known then, too."""
        leaders = dict(self._leaders)
        left = [(one, other)]
        while left:
            first, second = [_leader(thing, leaders) for thing in left.pop()]
            if first != second:
                leaders[second] = first
                for comes, others in self._compared(first, second):
                    behind = _joined(comes, others)
                    if behind is None:
                        return False
                    left.extend(behind)
        self._leaders = leaders
        return True

    def _compared(self, one, other):
        """What has to be alike for two standings, or two frames, to be one: tuples of two lists."""
        side = self._side
        if not isinstance(one, tuple):
            standings = self._closure.standings
            return [(side.answered(one, standing), side.answered(other, standing)) for standing in standings]
        numbers = self._closure.numbers
        answered = [(side.answered(number, one), side.answered(number, other)) for number in numbers]
        return [(side.asked(one), side.asked(other))] + answered


def _leader(thing, leaders):
    while thing in leaders:
        thing = leaders[thing]
    return thing


def _joined(comes, others):
    """The list of what is one if all that comes of the same moves is one; None if an event is unlike."""
    found = []
    for (event, standing, number), (other_event, other_standing, other_number) in zip(comes, others):
        if event != other_event:
            return None
        if standing != other_standing:
            found.append((standing, other_standing))
        if number != other_number:
            found.append((number, other_number))
    return found
