"""Tables as they grow: all that comes of their levels by all moves.

They grow with what stands in standsfor.sides: the states of one class alone,
or those of two classes, and the waits, each of which ends with its state.
"""

from standsfor.errors import TooMany


class Level:
    """What happens at one depth, which begins with this state."""

    def __init__(self, state):
        self.state = state
        # The states with which the surroundings are at work there.
        self.states = []
        self.held = {}
        # With how many of the states all asks were made.
        self.reached = 0
        # What waits for this level.
        self.groups = []


class Group:
    """All waits with the same frames and the same state, with which this level begins.

    They differ only in the levels in which their methods were asked, and what
    comes of them is the same in each of these.
    """

    def __init__(self, wait, level):
        self.wait = wait
        self.level = level
        # With how many of the level's states the frames went on.
        self.reached = 0
        self.begins = {}
        self.ends = {}
        self.waits = {}


class Growth:
    """A table that grows by all moves, within a bound of states and one of waits."""

    def __init__(self, sides, most_states, most_waits):
        self._sides = sides
        self._most_states = most_states
        self._most_waits = most_waits
        self._many_states = 0
        self._many_waits = 0
        # Levels that have new states, and groups that are new.
        self._new_levels = []
        self._new_groups = []
        self.levels = {}
        self.groups = {}
        # Whether the event came that is looked for.
        self.has_goal = False

    def level_of(self, state):
        """The level that begins with this state."""
        if state not in self.levels:
            level = Level(state)
            self.levels[state] = level
            self.add_state(level, state)
        return self.levels[state]

    def add_state(self, level, state):
        """Adds a state to those of the level."""
        if state in level.held:
            return
        self._many_states += 1
        if self._many_states > self._most_states:
            raise TooMany(self._most_states)
        level.held[state] = True
        level.states.append(state)
        self._new_levels.append(level)

    def grow(self):
        """Makes all moves, until nothing new comes of them."""
        while self._new_levels or self._new_groups:
            if self._new_groups:
                self._answer(self._new_groups.pop())
            else:
                level = self._new_levels.pop()
                self._ask(level)
                for group in list(level.groups):
                    self._answer(group)

    def all_waits(self):
        """The list of all waits, as tuples (wait, begin)."""
        return [(wait, begin.state) for wait, group in self.groups.items() for begin in group.begins]

    def _ask(self, level):
        while level.reached < len(level.states):
            goal, ends, waits = self._sides.asked(level.states[level.reached])
            level.reached += 1
            self._note(goal)
            for end in ends:
                self.add_state(level, end)
            for wait in waits:
                self._add_wait(wait, level)

    def _answer(self, group):
        states = group.level.states
        while group.reached < len(states):
            goal, ends, waits = self._sides.answered(group.wait, states[group.reached])
            group.reached += 1
            self._note(goal)
            self._take_ends(group, [end for end in ends if end not in group.ends])
            self._take_waits(group, [wait for wait in waits if wait not in group.waits])

    def _note(self, goal):
        if goal is not None:
            self.has_goal = True

    def _take_ends(self, group, ends):
        for end in ends:
            group.ends[end] = True
            for begin in list(group.begins):
                self.add_state(begin, end)

    def _take_waits(self, group, waits):
        for wait in waits:
            group.waits[wait] = True
            for begin in list(group.begins):
                self._add_wait(wait, begin)

    def _add_wait(self, wait, begin):
        """Adds a wait that began in this level, with all that is known to come of it."""
        left = [wait]
        while left:
            group = self._group(left.pop())
            if begin not in group.begins:
                self._many_waits += 1
                if self._many_waits > self._most_waits:
                    raise TooMany(self._most_waits)
                group.begins[begin] = True
                for end in list(group.ends):
                    self.add_state(begin, end)
                left.extend(list(group.waits))

    def _group(self, wait):
        if wait not in self.groups:
            group = Group(wait, self.level_of(wait[-1]))
            self.groups[wait] = group
            group.level.groups.append(group)
            self._new_groups.append(group)
        return self.groups[wait]


def grown(sides, most):
    """All that comes of the first state, as TooMany lets it."""
    growth = Growth(sides, most, most)
    growth.level_of(sides.first_state())
    growth.grow()
    return growth
