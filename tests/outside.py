"""A second way to play a thing of a plain class: by Python's own generators, all from the start."""

NONE = ("none",)


class Returned(Exception):
    def __init__(self, value):
        super().__init__()
        self.value = value


class Raised(Returned):
    pass


class Inner:
    """A method that is being done; where it stands is told from outside."""

    def __init__(self, method):
        self.method = method
        self.path = ()
        self.names = {}
        self.kept = []

    def frame(self):
        names = tuple(sorted(self.names.items()))
        return (self.method, self.path, names, tuple(self.kept))


class Outside:
    """Plays one row of moves after another; the frames are read off the generators that wait."""

    def __init__(self, cls):
        self.mark, self.fields, self.methods = cls[1:]
        self.words = {field: words[0] for field, words in self.fields.items()}
        self.waiting = []

    def standing(self):
        return tuple(self.words[field] for field in sorted(self.words))

    def frames(self):
        return [(tuple(inner.frame() for inner in frame["inner"]), frame["many"]) for frame in self.waiting]

    def move(self, move):
        if move[0] == "ask":
            if move[1] not in self.methods:
                return ("throws", ("word", "nomethod"))
            frame = {"inner": [], "many": 0}
            things = [self.arrived(frame, thing) for thing in move[2:]]
            frame["doing"] = self.method(frame, move[1], things)
            self.waiting.append(frame)
            return self.resume(lambda: next(frame["doing"]))
        frame = self.waiting[-1]
        value = self.arrived(frame, move[1])
        if move[0] == "give":
            return self.resume(lambda: frame["doing"].send(value))
        return self.resume(lambda: frame["doing"].throw(Raised(value)))

    def resume(self, action):
        try:
            return action()
        except StopIteration as stop:
            self.waiting.pop()
            return ("gives", self.shown(stop.value))
        except Raised as raised:
            self.waiting.pop()
            return ("throws", self.shown(raised.value))

    def arrived(self, frame, value):
        frame["many"] += 1
        return (value[0], frame["many"] - 1) if value[0].endswith("able") else value

    def shown(self, value):
        return ("other", value[1]) if value[0].endswith("able") else value

    def method(self, frame, name, things):
        inner = Inner(name)
        params, block = self.methods[name]
        for at, param in enumerate(params):
            inner.names[param] = things[at] if at < len(things) else NONE
        frame["inner"].append(inner)
        try:
            yield from self.block(frame, inner, block, ())
        except Raised:
            frame["inner"].pop()
            raise
        except Returned as returned:
            frame["inner"].pop()
            return returned.value
        frame["inner"].pop()
        return NONE

    def block(self, frame, inner, block, path):
        for at, statement in enumerate(block):
            inner.path = path + (at,)
            yield from self.statement(frame, inner, statement, path + (at,))

    def statement(self, frame, inner, statement, path):
        kind = statement[0]
        if kind == "if":
            number = 0 if self.holds(inner, statement[1]) else 1
            yield from self.block(frame, inner, statement[2 + number], path + (number,))
        elif kind == "try":
            try:
                yield from self.block(frame, inner, statement[1], path + (0,))
                return
            except Raised as raised:
                inner.names[statement[2]] = raised.value
            yield from self.block(frame, inner, statement[3], path + (1,))
        elif kind == "last":
            yield from self.last(frame, inner, statement, path)
        else:
            value = yield from self.right(frame, inner, statement[-1])
            self.finish(inner, statement, value)

    def last(self, frame, inner, statement, path):
        going = None
        try:
            yield from self.block(frame, inner, statement[1], path + (0,))
        except Returned as error:
            going = error
        word = "raise" if isinstance(going, Raised) else "return"
        inner.kept.append((word, going.value) if going else ("on",))
        try:
            yield from self.block(frame, inner, statement[2], path + (1,))
        finally:
            inner.kept.pop()
        if going:
            raise going

    def finish(self, inner, statement, value):
        kind = statement[0]
        if kind == "return":
            raise Returned(value)
        if kind == "raise":
            raise Raised(value)
        if kind in ("let", "set"):
            inner.names[statement[1]] = value
        elif kind == "keep":
            if value[0] != "word" or value[1] not in self.fields[statement[1]]:
                raise Raised(("word", "badword"))
            self.words[statement[1]] = value[1]

    def right(self, frame, inner, right):
        if right[0] not in ("call", "ask"):
            return self.value(inner, right)
        things = [self.value(inner, thing) for thing in right[-1]]
        shown = [self.shown(thing) for thing in things] + [NONE] * (2 - len(things))
        if right[0] == "call":
            kind, *number = self.value(inner, right[1])
            if kind != "able":
                raise Raised(("word", "nofunc"))
            return (yield ("calls", number[0], *shown))
        if self.mark == "open":
            return (yield ("asks", right[2], *shown))
        if right[2] not in self.methods:
            raise Raised(("word", "nomethod"))
        return (yield from self.method(frame, right[2], things))

    def value(self, inner, simple):
        if simple[0] == "name":
            return inner.names[simple[1]]
        return ("word", self.words[simple[1]]) if simple[0] == "field" else simple

    def holds(self, inner, test):
        if test[0] == "same":
            return self.value(inner, test[1]) == self.value(inner, test[2])
        if test[0] == "not":
            return not self.holds(inner, test[1])
        if test[0] == "both":
            return self.holds(inner, test[1]) and self.holds(inner, test[2])
        return self.holds(inner, test[1]) or self.holds(inner, test[2])
