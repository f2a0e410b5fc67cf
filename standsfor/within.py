"""What is done within a thing of a plain class, from a move up to the next event.

What comes of a move is a tuple (event, standing, frame): the standing behind
it, and the frame that waits, or None if the method has ended.
"""

from standsfor.blocks import statements_by_path

NONE = ("none",)
# What goes on behind a block that has ended by neither a return nor a raise.
GOING_ON = ("on",)


class Reading:
    """A plain class in its reading, laid out for what is done within its things."""

    def __init__(self, cls):
        _, mark, fields, methods = cls
        self.is_closed = mark == "closed"
        # The indexes of the fields in a standing, and the words of each.
        self.indexes = {field: index for index, field in enumerate(sorted(fields))}
        self.words = dict(fields)
        self.params = {method: params for method, (params, _) in methods.items()}
        self.statements = {method: statements_by_path(block) for method, (_, block) in methods.items()}
        # What fields were given by all that was done, as tuples (field, word).
        self.given = {}


class Work:
    """A method that is being done: where it stands, its names, and what its lasts keep."""

    def __init__(self, method, statements, names, kept):
        self.method = method
        self.own_names = names
        self.kept = kept
        self._statements = statements
        # The path of the statement at which it stands, None when the method has ended.
        self.path = None
        self.ending = GOING_ON

    def statement(self):
        """The statement at which it stands."""
        return self._statements[self.path]

    def go(self, path):
        """Goes to the statement at the path, or to what follows where its block has none there."""
        while path is not None and path not in self._statements:
            path = self._behind_block(path)
        self.path = path

    def advance(self):
        """Goes on behind the statement at which it stands."""
        self.go(_next(self.path))

    def enter(self, number):
        """Goes into a block of the statement at which it stands."""
        self.go((*self.path, number, 0))

    def end_by(self, going):
        """Ends the statement at which it stands by a return or a raise."""
        self.go(self._outward(self.path, going))

    def _behind_block(self, path):
        """Where it goes on behind the block that has ended at the path; None if nowhere."""
        if len(path) == 1:
            return None
        outer = path[:-2]
        if self._statements[outer][0] == "last":
            if path[-2] == 0:
                self.kept.append(GOING_ON)
                return (*outer, 1, 0)
            going = self.kept.pop()
            if going != GOING_ON:
                return self._outward(outer, going)
        return _next(outer)

    def _outward(self, path, going):
        """Where it goes on if the statement at the path ends by this; None if nowhere."""
        while len(path) > 1:
            outer = path[:-2]
            statement = self._statements[outer]
            is_first = path[-2] == 0
            if statement[0] == "last":
                if is_first:
                    self.kept.append(going)
                    return (*outer, 1, 0)
                self.kept.pop()
            elif statement[0] == "try" and is_first and going[0] == "raise":
                self.own_names[statement[2]] = going[1]
                return (*outer, 1, 0)
            path = outer
        self.ending = going
        return None


class Doing:
    """A method that was asked from outside, with those that are done within it."""

    def __init__(self, reading, standing, many):
        self._reading = reading
        self._words = list(standing)
        # How many values have come to it.
        self._many = many
        self._works = []

    def begin(self, method, things):
        """Begins a method; things that it lacks are none."""
        names = {}
        for index, param in enumerate(self._reading.params[method]):
            names[param] = things[index] if index < len(things) else NONE
        work = Work(method, self._reading.statements[method], names, [])
        work.go((0,))
        self._works.append(work)

    def stand(self, inner):
        """Stands where a frame waits."""
        for method, path, names, kept in inner:
            work = Work(method, self._reading.statements[method], dict(names), list(kept))
            work.go(path)
            self._works.append(work)

    def take(self, kind, value):
        """Goes on with what is given or thrown to the statement that waits."""
        work = self._works[-1]
        if kind == "give":
            self._finish(work, value)
        else:
            work.end_by(("raise", value))

    def outcome(self):
        """Goes on up to the next event; what has come of the move."""
        event = None
        while event is None:
            work = self._works[-1]
            event = self._leave(work) if work.path is None else self._do(work)
        return (event, tuple(self._words), self._frame())

    def _frame(self):
        if not self._works:
            return None
        inner = [
            (work.method, work.path, tuple(sorted(work.own_names.items())), tuple(work.kept))
            for work in self._works
        ]
        return (tuple(inner), self._many)

    def _leave(self, work):
        """Leaves a method that has ended; the event, if it was asked from outside."""
        self._works.pop()
        going = work.ending
        value = NONE if going == GOING_ON else going[1]
        if not self._works:
            return ("throws" if going[0] == "raise" else "gives", _shown(value))
        outer = self._works[-1]
        if going[0] == "raise":
            outer.end_by(going)
        else:
            self._finish(outer, value)
        return None

    def _do(self, work):
        """Does a statement, up to its call; the event, if there is one."""
        statement = work.statement()
        kind = statement[0]
        if kind == "if":
            work.enter(0 if self._holds(statement[1], work) else 1)
        elif kind in ("try", "last"):
            work.enter(0)
        elif statement[-1][0] == "call":
            return self._call(statement[-1], work)
        elif statement[-1][0] == "ask":
            return self._ask(statement[-1], work)
        else:
            self._finish(work, self._value(statement[-1], work))
        return None

    def _call(self, right, work):
        function = work.own_names[right[1][1]]
        if function[0] != "able":
            work.end_by(("raise", ("word", "nofunc")))
            return None
        one, other = self._two_shown(right[2], work)
        return ("calls", function[1], one, other)

    def _ask(self, right, work):
        method = right[2]
        if not self._reading.is_closed:
            one, other = self._two_shown(right[3], work)
            return ("asks", method, one, other)
        if method in self._reading.params:
            self.begin(method, [self._value(thing, work) for thing in right[3]])
        else:
            work.end_by(("raise", ("word", "nomethod")))
        return None

    def _two_shown(self, things, work):
        """How the things of a call are shown; those that it lacks are none."""
        shown = [_shown(self._value(thing, work)) for thing in things]
        return (shown + [NONE, NONE])[:2]

    def _finish(self, work, value):
        """Does the statement at which the method stands with the value of its right side."""
        statement = work.statement()
        kind = statement[0]
        if kind in ("return", "raise"):
            work.end_by((kind, value))
            return
        if kind == "keep":
            if value[0] != "word" or value[1] not in self._reading.words[statement[1]]:
                work.end_by(("raise", ("word", "badword")))
                return
            self._words[self._reading.indexes[statement[1]]] = value[1]
            self._reading.given[(statement[1], value[1])] = True
        elif kind in ("let", "set"):
            work.own_names[statement[1]] = value
        work.advance()

    def _value(self, simple, work):
        kind = simple[0]
        if kind == "name":
            return work.own_names[simple[1]]
        if kind == "field":
            return ("word", self._words[self._reading.indexes[simple[1]]])
        # Words, none and me are written as their values are told.
        return simple

    def _holds(self, test, work):
        kind = test[0]
        if kind == "same":
            return self._value(test[1], work) == self._value(test[2], work)
        first = self._holds(test[1], work)
        if kind == "not":
            return not first
        return first if first == (kind == "either") else self._holds(test[2], work)


def after_ask(reading, standing, method, things):
    """What comes of asking for a method with two incoming values."""
    if method not in reading.params:
        return (("throws", ("word", "nomethod")), standing, None)
    doing = Doing(reading, standing, len(things))
    doing.begin(method, [_arrived(thing, number) for number, thing in enumerate(things)])
    return doing.outcome()


def after_answer(reading, standing, frame, kind, value):
    """What comes of it if a frame goes on with an incoming value: kind is "give" or "throw"."""
    inner, many = frame
    doing = Doing(reading, standing, many + 1)
    doing.stand(inner)
    doing.take(kind, _arrived(value, many))
    return doing.outcome()


def _next(path):
    return path[:-1] + (path[-1] + 1,)


def _arrived(value, number):
    """An incoming value as it is within, if it came by this number."""
    return (value[0], number) if value[0] in ("able", "unable") else value


def _shown(value):
    """A value as events show it."""
    return ("other", value[1]) if value[0] in ("able", "unable") else value
