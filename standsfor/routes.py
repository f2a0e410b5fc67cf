"""The fewest moves to the event that is looked for, among all that moves bring.

Rows of moves are put together of shorter ones: those between two states of one
level, those from a wait to the end of what waits, and those up to the event.
The shortest of all that are not settled yet is settled first, as nothing that
is still to be put together can be shorter.
"""

from heapq import heappop, heappush

# The end of the rows that end with the event that is looked for.
GOAL = None


class Start:
    """Where rows of moves start: a level, or a wait, which goes on in a level."""

    def __init__(self, wait):
        # None for a level.
        self.wait = wait
        # The fewest moves to each end that is settled, in the order of their
        # numbers, and the way to it: a tuple (level, state, move, wait), which
        # goes to the state of the level, makes the move, and goes on behind it
        # from the wait to the end (None: the move brings the end at once).
        self.costs = {}
        self.ways = {}
        # The starts whose rows go on through this wait: the fewest moves up to
        # it, and the way through it.
        self.users = {}
        # For a level, the waits that go on in it.
        self.inner = []


class Routes:
    """Looks for the fewest moves from the first state of some sides to the event."""

    def __init__(self, sides):
        self._sides = sides
        self._levels = {}
        self._waits = {}
        # Waits for which the settled states of their level are still to be taken.
        self._new_waits = []
        # What can be settled next; a number in each item keeps them in an order.
        self._queue = []
        self._offers = 0
        self._first = self._level(sides.first_state())

    def fewest(self):
        """The fewest moves, if the event comes at all."""
        while GOAL not in self._first.costs:
            if self._new_waits:
                self._catch_up(self._new_waits.pop())
            else:
                self._settle()
        return self._first.costs[GOAL]

    def row(self):
        """A list of the fewest moves."""
        self.fewest()
        found = []
        # What is to be put ahead of what was found, the last of it last.
        left = [(self._first, GOAL)]
        while left:
            start, end = left.pop()
            if start is None:
                found.append(end)
            elif start.ways[end] is not None:
                level, state, move, wait = start.ways[end]
                left.append((level, state))
                if move is not None:
                    left.append((None, move))
                if wait is not None:
                    left.append((wait, end))
        return found[::-1]

    def _level(self, state):
        if state not in self._levels:
            self._levels[state] = Start(None)
            self._offer(self._levels[state], state, 0, None)
        return self._levels[state]

    def _wait(self, wait):
        if wait not in self._waits:
            made = Start(wait)
            self._waits[wait] = made
            self._level(wait[-1]).inner.append(made)
            self._new_waits.append(made)
        return self._waits[wait]

    def _offer(self, start, end, cost, way):
        if end not in start.costs:
            self._offers += 1
            heappush(self._queue, (cost, self._offers, start, end, way))

    def _settle(self):
        """Settles the end to which there are the fewest moves."""
        cost, _, start, end, way = heappop(self._queue)
        if end in start.costs:
            return
        start.costs[end] = cost
        start.ways[end] = way
        for user, (ahead, through) in start.users.items():
            self._offer(user, end, ahead + cost, through)
        if start.wait is None:
            if end != GOAL:
                self._take(start, start, end, self._sides.asked(end))
            for wait in list(start.inner):
                self._go_on(wait, start, end)

    def _catch_up(self, wait):
        level = self._level(wait.wait[-1])
        for end in list(level.costs):
            self._go_on(wait, level, end)

    def _go_on(self, wait, level, end):
        """Goes on from the wait with what is settled for its level."""
        if end == GOAL:
            self._offer(wait, GOAL, level.costs[GOAL], (level, GOAL, None, None))
        else:
            self._take(wait, level, end, self._sides.answered(wait.wait, end))

    def _take(self, start, level, state, come):
        """Takes what the moves at a state of the level bring for the start."""
        goal, ends, waits = come
        cost = level.costs[state] + 1
        if goal is not None:
            self._offer(start, GOAL, cost, (level, state, goal, None))
        for end, move in ends.items():
            self._offer(start, end, cost, (level, state, move, None))
        for key, move in waits.items():
            wait = self._wait(key)
            # States are settled by their numbers of moves: the first one stays.
            if start not in wait.users:
                way = (level, state, move, wait)
                wait.users[start] = (cost, way)
                for end, more in wait.costs.items():
                    self._offer(start, end, cost + more, way)
