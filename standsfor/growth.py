"""Tables as they grow: all that comes of their levels by all moves."""

from standsfor.errors import TooMany


class Level:
    """What happens at one depth, which begins with this pair."""

    def __init__(self, pair):
        self.pair = pair
        # The pairs with which the surroundings are at work there.
        self.pairs = []
        self.held = {}
        # With how many of the pairs all asks were made.
        self.reached = 0
        # What waits for this level.
        self.groups = []


class Group:
    """All waits with these two frames, by their numbers, and the pair of this level.

    They differ only in the levels in which their methods were asked, and what
    comes of them is the same in each of these.
    """

    def __init__(self, one, other, level):
        self.one = one
        self.other = other
        self.level = level
        # With how many of the level's pairs the frames went on.
        self.reached = 0
        self.begins = {}
        self.ends = {}
        self.waits = {}


class Growth:
    """A table that grows by all moves, within a bound of pairs and one of waits."""

    def __init__(self, sides, most_pairs, most_waits):
        self._sides = sides
        self._most_pairs = most_pairs
        self._most_waits = most_waits
        self._many_pairs = 0
        self._many_waits = 0
        # Levels that have new pairs, and groups that are new.
        self._new_levels = []
        self._new_groups = []
        self.levels = {}
        self.groups = {}
        # Whether an unlike event came; nothing goes on behind such a one.
        self.is_unlike = False

    def level_of(self, pair):
        """The level that begins with this pair."""
        if pair not in self.levels:
            level = Level(pair)
            self.levels[pair] = level
            self.add_pair(level, pair)
        return self.levels[pair]

    def add_pair(self, level, pair):
        """Adds a pair to those of the level."""
        if pair in level.held:
            return
        self._many_pairs += 1
        if self._many_pairs > self._most_pairs:
            raise TooMany(self._most_pairs)
        level.held[pair] = True
        level.pairs.append(pair)
        self._new_levels.append(level)

    def grow(self):
        """Makes all moves, until nothing new comes of them."""
        while self._new_levels or self._new_groups:
            if self._new_groups:
                self._answer(self._new_groups.pop())
            else:
                level = self._new_levels.pop()
                self._ask(level)
                for group in list(level.groups):
                    self._answer(group)

    def all_waits(self):
        """The list of all waits, as tuples (frame, frame, pair, begin)."""
        return [
            (group.one, group.other, group.level.pair, begin.pair)
            for group in self.groups.values()
            for begin in group.begins
        ]

    def _ask(self, level):
        while level.reached < len(level.pairs):
            unlike, ends, waits = self._sides.asked(level.pairs[level.reached])
            level.reached += 1
            self.is_unlike = self.is_unlike or unlike
            for end in ends:
                self.add_pair(level, end)
            for wait in waits:
                self._add_wait(wait, level)

    def _answer(self, group):
        pairs = group.level.pairs
        while group.reached < len(pairs):
            unlike, ends, waits = self._sides.answered(group.one, group.other, pairs[group.reached])
            group.reached += 1
            self.is_unlike = self.is_unlike or unlike
            self._take_ends(group, [end for end in ends if end not in group.ends])
            self._take_waits(group, [wait for wait in waits if wait not in group.waits])

    def _take_ends(self, group, ends):
        for end in ends:
            group.ends[end] = True
            for begin in list(group.begins):
                self.add_pair(begin, end)

    def _take_waits(self, group, waits):
        for wait in waits:
            group.waits[wait] = True
            for begin in list(group.begins):
                self._add_wait(wait, begin)

    def _add_wait(self, wait, begin):
        """Adds a wait that began in this level, with all that is known to come of it."""
        left = [wait]
        while left:
            group = self._group(left.pop())
            if begin not in group.begins:
                self._many_waits += 1
                if self._many_waits > self._most_waits:
                    raise TooMany(self._most_waits)
                group.begins[begin] = True
                for end in list(group.ends):
                    self.add_pair(begin, end)
                left.extend(list(group.waits))

    def _group(self, wait):
        if wait not in self.groups:
            one, other, pair = wait
            group = Group(one, other, self.level_of(pair))
            self.groups[wait] = group
            group.level.groups.append(group)
            self._new_groups.append(group)
        return self.groups[wait]
