"""Tables as the words of [19] and [20] tell them, straight and slow."""

from standsfor.plain import methods_of, words_of
from standsfor.standings import first_standing, standings
from standsfor.within import Reading, after_answer, after_ask


class Both:
    def __init__(self, one, other):
        self.readings = (Reading(one), Reading(other))
        words = sorted(set(words_of(one) + words_of(other)))
        self.incoming = [("word", word) for word in words] + [("none",), ("able",), ("unable",)]
        self.methods = sorted(set(methods_of(one) + methods_of(other)))
        self.first = (first_standing(one), first_standing(other))
        self.known = {}

    def asks(self, pair):
        if pair not in self.known:
            self.known[pair] = [self.after_ask(pair, method, (first, second)) for method in self.methods
                                for first in self.incoming for second in self.incoming]
        return self.known[pair]

    def answers(self, frames, pair):
        if (frames, pair) not in self.known:
            self.known[(frames, pair)] = [self.after_answer(frames, pair, kind, value)
                                          for kind in ("give", "throw") for value in self.incoming]
        return self.known[(frames, pair)]

    def after_ask(self, pair, method, things):
        return self.joined([after_ask(reading, standing, method, things)
                            for reading, standing in zip(self.readings, pair)])

    def after_answer(self, frames, pair, kind, value):
        return self.joined([after_answer(reading, standing, frame, kind, value)
                            for reading, standing, frame in zip(self.readings, pair, frames)])

    def joined(self, comes):
        """The kind of what comes, the pair, and the frames."""
        (event, standing, frame), (other_event, other_standing, other_frame) = comes
        if event != other_event:
            return ("unlike", None, None)
        kind = "end" if event[0] in ("gives", "throws") else "wait"
        assert (frame is None) == (other_frame is None) == (kind == "end")
        return (kind, (standing, other_standing), (frame, other_frame))


def least(one, other):
    """The sets of all (begin, pair) and of all waits that come of the first pair, and whether all is alike."""
    both = Both(one, other)
    lists, waits, like = {(both.first, both.first)}, set(), True
    while True:
        ahead = (len(lists), len(waits))
        for begin, pair in list(lists):
            for kind, behind, frames in both.asks(pair):
                like = like and kind != "unlike"
                if kind == "end":
                    lists.add((begin, behind))
                elif kind == "wait":
                    waits.add((*frames, behind, begin))
        for one_frame, other_frame, pair, begin in list(waits):
            lists.add((pair, pair))
            for level, now in list(lists):
                if level == pair:
                    for kind, behind, frames in both.answers((one_frame, other_frame), now):
                        like = like and kind != "unlike"
                        if kind == "end":
                            lists.add((begin, behind))
                        elif kind == "wait":
                            waits.add((*frames, behind, begin))
        if ahead == (len(lists), len(waits)):
            return lists, waits, like


def is_closed(one, other, table):
    """Whether a table, which has the form of one, is closed."""
    both = Both(one, other)
    levels, waits = table
    if len({pair for pair, _ in levels}) != len(levels):
        return False
    held = dict(levels)
    pairs = {(first, second) for first in standings(one) for second in standings(other)}
    if both.first not in held or any(wait[2] not in held for wait in waits):
        return False
    if any(pair not in held[pair] or not pairs.issuperset([pair] + held[pair]) for pair in held):
        return False
    wanted = []
    for begin in held:
        for pair in held[begin]:
            wanted += [(begin, come) for come in both.asks(pair)]
    for one_frame, other_frame, pair, begin in waits:
        # A frame that nothing asks for need not be one: then it is not closed anyway.
        for now in held[pair]:
            try:
                wanted += [(begin, come) for come in both.answers((one_frame, other_frame), now)]
            except (KeyError, IndexError, TypeError, ValueError):
                return False
    asked_for = set()
    for begin, (kind, behind, frames) in wanted:
        if kind == "unlike" or kind == "end" and behind not in held.get(begin, ()):
            return False
        if kind == "wait":
            asked_for.add((*frames, behind, begin))
    return asked_for == set(waits)


def told_apart(one, other, most):
    """A row of at most so many moves that tells them apart, the first found going breadth first, or None."""
    both = Both(one, other)
    moves = [("ask", method, first, second) for method in both.methods
             for first in both.incoming for second in both.incoming]
    moves += [(kind, value) for kind in ("give", "throw") for value in both.incoming]
    rows = {(both.first, ()): ()}
    for _ in range(most):
        longer = {}
        for (pair, waiting), row in rows.items():
            for move in moves:
                if move[0] == "ask":
                    kind, behind, frames = both.after_ask(pair, move[1], move[2:])
                elif waiting:
                    kind, behind, frames = both.after_answer(waiting[-1], pair, *move)
                else:
                    continue
                if kind == "unlike":
                    return row + (move,)
                rest = waiting if move[0] == "ask" else waiting[:-1]
                longer.setdefault((behind, rest + (frames,) if kind == "wait" else rest), row + (move,))
        rows = {key: row for key, row in longer.items() if key not in rows}
    return None


class One:
    """A class alone: what comes of its standings and frames, for merges."""

    def __init__(self, cls):
        lists, waits, like = least(cls, cls)
        assert like and all(pair[0] == pair[1] for _, pair in lists) and all(wait[0] == wait[1] for wait in waits)
        self.come_to = sorted({pair[0] for _, pair in lists})
        self.waiting = {wait[0] for wait in waits}
        self.both = Both(cls, cls)

    def merge(self, pairs):
        """All pairs of standings and of frames that come of these pairs, and whether all is alike."""
        pairs = set(pairs) | {(standing, standing) for standing in self.come_to}
        frames = {(frame, frame) for frame in self.waiting}
        like = True
        while True:
            ahead = (len(pairs), len(frames))
            for kind, behind, waiting in self.comes(pairs, frames):
                like = like and kind != "unlike"
                if kind != "unlike":
                    pairs.add(behind)
                if kind == "wait":
                    frames.add(waiting)
            if ahead == (len(pairs), len(frames)):
                return pairs, frames, like

    def comes(self, pairs, frames):
        found = set()
        for pair in pairs:
            found.update(self.both.asks(pair))
            for waiting in frames:
                found.update(self.both.answers(waiting, pair))
        return found

    def is_closed(self, merge):
        """Whether a merge, which has the form of one, is closed."""
        pairs, frames = set(merge[0]), set(merge[1])
        if not pairs.issuperset((standing, standing) for standing in self.come_to):
            return False
        if not frames.issuperset((frame, frame) for frame in self.waiting):
            return False
        asked_for = {(frame, frame) for frame in self.waiting}
        try:
            comes = self.comes(pairs, frames)
        except (KeyError, IndexError, TypeError, ValueError):
            return False
        for kind, behind, waiting in comes:
            if kind == "unlike" or behind not in pairs:
                return False
            if kind == "wait":
                asked_for.add(waiting)
        return asked_for == frames


def fewest_to(cls, words, event, most):
    """The fewest moves, at most so many, to this event, going breadth first; None if it takes more."""
    reading = Reading(cls)
    incoming = [("word", word) for word in words] + [("none",), ("able",), ("unable",)]
    asks = [(method, (first, second)) for method in [*cls[3], "unknown"] for first in incoming for second in incoming]
    answers = [(kind, value) for kind in ("give", "throw") for value in incoming]
    states = {(first_standing(cls), ())}
    for many in range(1, most + 1):
        behind = set()
        for standing, waiting in states:
            comes = [(after_ask(reading, standing, *ask), waiting) for ask in asks]
            if waiting:
                comes += [(after_answer(reading, standing, waiting[-1], *answer), waiting[:-1]) for answer in answers]
            for (told, now, frame), rest in comes:
                if told == event:
                    return many
                behind.add((now, rest if frame is None else (*rest, frame)))
        states = behind
    return None


def events_of(cls, method):
    """All events between an ask of this method and its end, at its own depth."""
    lists, waits, _ = least(cls, cls)
    both = Both(cls, cls)
    reading = both.readings[0]
    found = set()
    for begin, (standing, _) in lists:
        found.update(after_ask(reading, standing, method, (first, second))[0]
                     for first in both.incoming for second in both.incoming)
        for frame, _, pair, _ in waits:
            if frame[0][0][0] == method and pair == begin:
                found.update(after_answer(reading, standing, frame, kind, value)[0]
                             for kind in ("give", "throw") for value in both.incoming)
    return found


def fewest_apart(one, other, most, states):
    """The fewest moves that tell them apart, going breadth first over pairs and what waits.

    None if it takes more moves than most, "many" if it takes more than so many states.
    """
    both = Both(one, other)
    new = {(both.first, ())}
    seen = set(new)
    for many in range(1, most + 1):
        behind = set()
        for pair, waiting in new:
            comes = [(come, waiting) for come in both.asks(pair)]
            if waiting:
                comes += [(come, waiting[:-1]) for come in both.answers(waiting[-1], pair)]
            for (kind, now, frames), rest in comes:
                if kind == "unlike":
                    return many
                behind.add((now, (*rest, frames) if kind == "wait" else rest))
        new = behind - seen
        seen |= new
        if len(seen) > states:
            return "many"
    return None
