"""A second way to run programs, by calls within calls, to compare with."""


class Raised(Exception):
    def __init__(self, value):
        super().__init__()
        self.value = value


class Returned(Exception):
    def __init__(self, value):
        super().__init__()
        self.value = value


class Long(Exception):
    pass


class Scope(dict):
    def __init__(self, outer):
        super().__init__()
        self.outer = outer

    def holder(self, name):
        if name in self:
            return self
        if self.outer is None:
            raise Raised("noname")
        return self.outer.holder(name)


class Func:
    def __init__(self, params, block, spot):
        self.params, self.block, self.spot = params, block, spot


class Obj:
    def __init__(self, cls, classes):
        self.cls = cls
        self.words = {}
        while cls is not None:
            self.words[cls] = {field: words[0] for field, words in classes[cls][2].items()}
            cls = classes[cls][0]


class Spot:
    def __init__(self, scope, thing, text):
        self.scope, self.thing, self.text = scope, thing, text


def text_of(value):
    if value is None:
        return "none"
    if isinstance(value, str):
        return value
    return "function" if isinstance(value, Func) else "thing"


class Runner:
    """Runs a program; trace has what there is to see ahead of each step and at the end."""

    def __init__(self, program, most=20000):
        self.classes = program.classes
        self.most = most
        self.lines = []
        self.steps = 0
        self.depth = 0
        self.trace = []
        outer = Spot(Scope(None), None, None)
        self.outer = outer.scope
        try:
            self.block(program.body, outer)
            self.end = ("done",)
        except Raised as raised:
            self.end = ("raised", text_of(raised.value))
        self.depth = 0
        self.see(None, outer)

    def see(self, statement, spot):
        names = {name: text_of(value) for name, value in spot.scope.items()}
        fields = dict(spot.thing.words[spot.text]) if spot.thing is not None else {}
        self.trace.append((statement, self.depth, names, fields, list(self.lines)))

    def begin(self, statement, spot):
        self.see(statement, spot)
        self.steps += 1
        if self.steps > self.most:
            raise Long()

    def block(self, block, spot):
        for statement in block:
            self.statement(statement, spot)

    def statement(self, statement, spot):
        self.begin(statement, spot)
        kind = statement[0]
        if kind == "if":
            self.block(statement[2] if self.test(statement[1], spot) else statement[3], spot)
        elif kind == "while":
            while self.test(statement[1], spot):
                self.block(statement[2], spot)
                self.begin(statement, spot)
        elif kind == "try":
            try:
                self.block(statement[1], spot)
                return
            except Raised as raised:
                spot.scope[statement[2]] = raised.value
            self.block(statement[3], spot)
        elif kind == "last":
            try:
                self.block(statement[1], spot)
            finally:
                if not self.steps > self.most and not self.depth > 200:
                    self.block(statement[2], spot)
        else:
            self.finish(statement, self.right(statement[-1], spot), spot)

    def finish(self, statement, value, spot):
        kind = statement[0]
        if kind == "let":
            spot.scope[statement[1]] = value
        elif kind == "set":
            spot.scope.holder(statement[1])[statement[1]] = value
        elif kind == "keep":
            if value not in self.classes[spot.text][2][statement[1]]:
                raise Raised("badword")
            spot.thing.words[spot.text][statement[1]] = value
        elif kind == "print":
            self.lines.append(text_of(value))
        elif kind == "return":
            raise Returned(value)
        elif kind == "raise":
            raise Raised(value)

    def test(self, test, spot):
        kind = test[0]
        if kind == "same":
            one, other = self.right(test[1], spot), self.right(test[2], spot)
            return one == other
        if kind == "not":
            return not self.test(test[1], spot)
        if kind == "both":
            return self.test(test[1], spot) and self.test(test[2], spot)
        return self.test(test[1], spot) or self.test(test[2], spot)

    def right(self, right, spot):
        kind = right[0]
        if kind == "word":
            return right[1]
        if kind == "none":
            return None
        if kind == "name":
            return spot.scope.holder(right[1])[right[1]]
        if kind == "me":
            return spot.thing
        if kind == "field":
            return spot.thing.words[spot.text][right[1]]
        if kind == "fn":
            return Func(right[1], right[2], spot)
        if kind == "new":
            return Obj(right[1], self.classes)
        return self.call(right, spot)

    def call(self, right, spot):
        kind = right[0]
        if kind == "parent":
            things = [self.right(thing, spot) for thing in right[2]]
            return self.method(spot.thing, self.classes[spot.text][0], right[1], things)
        target = self.right(right[1], spot)
        things = [self.right(thing, spot) for thing in right[-1]]
        if kind == "call":
            if not isinstance(target, Func):
                raise Raised("nofunc")
            inner = Spot(Scope(target.spot.scope), target.spot.thing, target.spot.text)
            return self.enter(target.params, target.block, inner, things)
        if not isinstance(target, Obj):
            raise Raised("nomethod")
        return self.method(target, target.cls, right[2], things)

    def method(self, thing, text, name, things):
        while text is not None and name not in self.classes[text][3]:
            text = self.classes[text][0]
        if text is None:
            raise Raised("nomethod")
        params, block = self.classes[text][3][name]
        return self.enter(params, block, Spot(Scope(self.outer), thing, text), things)

    def enter(self, params, block, spot, things):
        self.depth += 1
        if self.depth > 200:
            raise Long()
        for at, param in enumerate(params):
            spot.scope[param] = things[at] if at < len(things) else None
        try:
            self.block(block, spot)
            return None
        except Returned as returned:
            return returned.value
        finally:
            if not self.depth > 200:
                self.depth -= 1
