"""The machine that does a program, statement by statement.

The blocks that are being done stand in a list, the innermost one last, so that
neither deep blocks nor many calls under way need calls within calls in here.
"""

from standsfor.forms import CALLS
from standsfor.values import Call, Function, Surroundings, Thing, latest, told


class Level:
    """A block that is being done.

    Its kind tells what happens behind it: "body", "call", "try" (more is the
    name and the second block), "first" and "second" for the blocks of a last
    (more is the second block, and what goes on behind it), otherwise "plain".
    """

    def __init__(self, kind, block, call, more):
        self.kind = kind
        self.block = block
        self.call = call
        self.more = more
        # The index of the statement ahead of which it stands.
        self.reached = 0


class Machine:
    """A run of a program, which stands ahead of a statement or has ended."""

    def __init__(self, program):
        self._classes = program.classes
        self._chains = {name: _chain(self._classes, name) for name in self._classes}
        self._body = Call(Surroundings(None), None, None, None, 0)
        self._levels = [Level("body", program.body, self._body, None)]
        # A return or a raise on its way outward, as ("return", value), or None.
        self._going = None
        self.steps = 0
        self.printed = []
        # The most calls that were under way at any time.
        self.deepest = 0
        self.ending = None
        self._settle()

    def ahead(self):
        """The statement ahead of which it stands, None at the end."""
        if self.ending is not None:
            return None
        level = self._levels[-1]
        return level.block[level.reached]

    def innermost(self):
        """The innermost call under way, that of the body if there is none."""
        return self._body if self.ending is not None else self._levels[-1].call

    def step(self):
        """Begins the statement ahead, and does all up to the next beginning."""
        self.steps += 1
        level = self._levels[-1]
        statement = level.block[level.reached]
        if statement[0] == "while":
            self._look(level, statement)
        else:
            level.reached += 1
            self._begin(statement, level.call)
        self._settle()

    def _look(self, level, statement):
        # The level stays ahead of a while as long as its test holds, so that
        # the test is looked at again behind the block.
        holds = self._holds(statement[1], level.call)
        if holds is None:
            self._raise("noname")
        elif holds:
            self._levels.append(Level("plain", statement[2], level.call, None))
        else:
            level.reached += 1

    def _begin(self, statement, call):
        kind = statement[0]
        if kind == "if":
            self._choose(statement, call)
        elif kind == "try":
            self._levels.append(Level("try", statement[1], call, statement[2:]))
        elif kind == "last":
            self._levels.append(Level("first", statement[1], call, statement[2]))
        elif statement[-1][0] in CALLS:
            self._begin_call(statement, statement[-1], call)
        else:
            found = self._values(statement[-1:], call)
            if found is None:
                self._raise("noname")
            else:
                self._finish(statement, found[0], call)

    def _choose(self, statement, call):
        holds = self._holds(statement[1], call)
        if holds is None:
            self._raise("noname")
        else:
            self._levels.append(Level("plain", statement[2] if holds else statement[3], call, None))

    def _holds(self, test, call):
        """Whether the test holds; None if it reads a name that has no value."""
        kind = test[0]
        if kind == "same":
            found = self._values(test[1:], call)
            return None if found is None else found[0] == found[1]
        first = self._holds(test[1], call)
        if first is None:
            return None
        if kind == "not":
            return not first
        return first if first == (kind == "either") else self._holds(test[2], call)

    def _values(self, simples, call):
        """The list of the values; None if one is a name that has no value."""
        found = []
        for simple in simples:
            if simple[0] == "name":
                nearest = call.surroundings.nearest(simple[1])
                if nearest is None:
                    return None
                found.append(latest(nearest.pasts[simple[1]]))
            else:
                found.append(self._value(simple, call))
        return found

    def _value(self, simple, call):
        """The value of a simple expression other than a name."""
        kind = simple[0]
        if kind == "word":
            return simple[1]
        if kind == "none":
            return None
        if kind == "me":
            return call.thing
        if kind == "field":
            return latest(call.thing.pasts[(call.text, simple[1])])
        if kind == "fn":
            return Function(simple[1], simple[2], call)
        return self._new_thing(simple[1])

    def _new_thing(self, name):
        thing = Thing(self._chains[name])
        for text in thing.chain:
            for field, words in self._classes[text][2].items():
                thing.pasts[(text, field)] = [(self.steps, words[0])]
        return thing

    def _raise(self, value):
        self._going = ("raise", value)

    def _begin_call(self, statement, right, call):
        kind = right[0]
        asked = () if kind == "parent" else right[1:2]
        found = self._values(asked + right[-1], call)
        if found is None:
            self._raise("noname")
        elif kind == "call":
            self._call_function(statement, found[0], found[1:], call)
        elif kind == "parent":
            chain = self._chains[call.text][1:]
            self._call_method(statement, call.thing, chain, right[1], found, call)
        else:
            thing = found[0]
            chain = thing.chain if isinstance(thing, Thing) else ()
            self._call_method(statement, thing, chain, right[2], found[1:], call)

    def _call_function(self, statement, function, things, call):
        if not isinstance(function, Function):
            self._raise("nofunc")
            return
        made_in = function.made_in
        surroundings = Surroundings(made_in.surroundings)
        begun = Call(surroundings, made_in.thing, made_in.text, statement, call.number + 1)
        self._enter(begun, function.params, function.block, things)

    def _call_method(self, statement, thing, chain, method, things, call):
        """Does the method of the nearest class of the chain that has it."""
        for text in chain:
            methods = self._classes[text][3]
            if method in methods:
                params, block = methods[method]
                surroundings = Surroundings(self._body.surroundings)
                begun = Call(surroundings, thing, text, statement, call.number + 1)
                self._enter(begun, params, block, things)
                return
        self._raise("nomethod")

    def _enter(self, begun, params, block, things):
        for at, param in enumerate(params):
            value = things[at] if at < len(things) else None
            begun.surroundings.give(param, value, self.steps)
        self.deepest = max(self.deepest, begun.number)
        self._levels.append(Level("call", block, begun, None))

    def _finish(self, statement, value, call):
        """Does the statement with the value of its right side."""
        kind = statement[0]
        if kind == "let":
            call.surroundings.give(statement[1], value, self.steps)
        elif kind == "set":
            self._set(statement[1], value, call)
        elif kind == "keep":
            self._keep(statement[1], value, call)
        elif kind == "print":
            self.printed.append(told(value))
        elif kind in ("return", "raise"):
            self._going = (kind, value)

    def _set(self, name, value, call):
        nearest = call.surroundings.nearest(name)
        if nearest is None:
            self._raise("noname")
        else:
            nearest.give(name, value, self.steps)

    def _keep(self, field, value, call):
        if value in self._classes[call.text][2][field]:
            call.thing.pasts[(call.text, field)].append((self.steps, value))
        else:
            self._raise("badword")

    def _settle(self):
        """Leaves all blocks that are done, or that a return or a raise ends."""
        while self._levels:
            level = self._levels[-1]
            if self._going is None and level.reached < len(level.block):
                return
            self._levels.pop()
            self._leave(level)

    def _leave(self, level):
        kind = level.kind
        if kind == "try":
            self._leave_try(level)
        elif kind == "first":
            self._levels.append(Level("second", level.more, level.call, self._going))
            self._going = None
        elif kind == "second" and self._going is None:
            self._going = level.more
        elif kind == "call":
            self._leave_call(level)
        elif kind == "body":
            raised = self._going
            self.ending = ("done",) if raised is None else ("raised", told(raised[1]))

    def _leave_try(self, level):
        going = self._going
        if going is not None and going[0] == "raise":
            name, second = level.more
            self._going = None
            level.call.surroundings.give(name, going[1], self.steps)
            self._levels.append(Level("plain", second, level.call, None))

    def _leave_call(self, level):
        going = self._going
        if going is not None and going[0] == "raise":
            return
        self._going = None
        value = None if going is None else going[1]
        # Below the call stands the block whose statement waits for it.
        self._finish(level.call.waiting, value, self._levels[-1].call)


def _chain(classes, name):
    """The names of the class and of those above it, from the class upward."""
    chain = ()
    above = name
    while above is not None:
        chain += (above,)
        above = classes[above][0]
    return chain
