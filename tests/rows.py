"""Programs whose functions and heirs make a row of moves to a thing of the class "box".

What the surroundings are handed is printed; a value that they handed to the
thing is printed as the name by which the body knows it.
"""

from shorthand import NONE, YES, ask, attempt, call, cls, cond, do, fn, let, loop, method, n, new, packed, parent
from shorthand import put, ret, same, say, show, throw, w
from standsfor.programs import Program
from standsfor.sessions import Session


def letters(first, number):
    return first + "".join(chr(ord("a") + number // 26 ** place % 26) for place in (1, 0))


class Row:
    def __init__(self, box, moves, kinds):
        """kinds tells what unable values are: "word", "thing" or "me", by turns."""
        self.box = box
        self.moves = moves
        self.kinds = kinds
        self.labels = {}
        self.made = []
        for at, move in enumerate(moves):
            for place, value in enumerate(move):
                if value in (("able",), ("unable",)):
                    self.make((at, place), value[0])

    def make(self, spot, kind):
        label = letters("v", len(self.made))
        if kind == "able":
            made = fn("a b", say("calls"), say(label), do(call(n("show"), n("a"))), do(call(n("show"), n("b"))),
                      let("r", call(n("act"))), ret(n("r")))
        else:
            kind = self.kinds[len(self.made) % len(self.kinds)]
            made = {"word": w(letters("u", len(self.made))), "thing": new("other"), "me": n("box")}[kind]
        self.labels[spot] = "me" if kind == "me" else label
        self.made.append((label, kind, made))

    def value(self, spot):
        """The expression for the value at this place of this move."""
        value = self.moves[spot[0]][spot[1]]
        if value[0] in ("able", "unable"):
            return n("box") if self.labels[spot] == "me" else n(self.labels[spot])
        return value

    def act(self):
        """Makes the moves from the one that is the next on, until one of them goes back."""
        steps = []
        for at, move in enumerate(self.moves):
            steps.append(cond(same(n("now"), w(letters("n", at))),
                              (put("now", w(letters("n", at + 1))), *self.step(at))))
        steps.append(cond(same(n("now"), w(letters("n", len(self.moves)))), (say("over"), put("now", NONE))))
        return fn("", loop(YES, *packed(steps)))

    def step(self, at):
        move = self.moves[at]
        if move[0] == "give":
            return (ret(self.value((at, 1))),)
        if move[0] == "throw":
            return (throw(self.value((at, 1))),)
        things = (self.value((at, 2)), self.value((at, 3)))
        if self.box[1] == "open":
            asks = let("r", ask(n("box"), "reach", w(move[1]), *things))
        else:
            asks = let("r", ask(n("box"), move[1], *things))
        return (attempt((asks, say("gives"), do(call(n("show"), n("r")))), "e",
                        (say("throws"), do(call(n("show"), n("e"))))),)

    def heir(self, asked):
        """Shows each ask of itself, and reaches the methods above it."""
        methods = {}
        for name in asked:
            methods[name] = method("a b", say("asks"), say(name), do(call(n("show"), n("a"))),
                                   do(call(n("show"), n("b"))), let("r", call(n("act"))), ret(n("r")))
        names = sorted({move[1] for move in self.moves if move[0] == "ask"})
        reach = [cond(same(n("m"), w(name)), (ret(parent(name, n("a"), n("b"))),)) for name in names]
        methods["reach"] = method("m a b", *packed(reach))
        return cls(methods, {}, "box")

    def program(self, asked):
        """asked has the names of the methods that the box asks of itself."""
        classes = {"box": self.box, "other": cls()}
        if self.box[1] == "open":
            classes["heir"] = self.heir(asked)
        shown = [cond(same(n("x"), n("box")), (say("me"), ret(NONE)))]
        lets = [let("now", w(letters("n", 0))), let("box", new("heir" if "heir" in classes else "box"))]
        for label, kind, made in self.made:
            if kind != "me":
                shown.append(cond(same(n("x"), n(label)), (say(label), ret(NONE))))
                lets.append(let(label, made))
        lets += [let("show", fn("x", *packed([*shown, show(n("x"))]))), let("act", self.act()), do(call(n("act")))]
        return Program(classes, packed(lets))

    def lines(self, events):
        """What the program prints, if these are the events."""
        told, waiting = [], []
        for at, (move, event) in enumerate(zip(self.moves, events)):
            if move[0] == "ask":
                waiting.append([])
            waiting[-1] += [self.labels.get((at, place)) for place in range(len(move)) if isinstance(move[place],
                                                                                                     tuple)]
            known = waiting[-1]
            told.append(event[0])
            told += [known[part] if isinstance(part, int) else part if isinstance(part, str) else
                     known[part[1]] if part[0] == "other" else part[-1] for part in event[1:]]
            if event[0] in ("gives", "throws"):
                waiting.pop()
        return told


def printed(program):
    """The lines of its run, up to the one that tells that all moves are made, or up to its end."""
    session = Session(program)
    lines = []
    while "over" not in lines and session.end() is None:
        lines += session.step()
    return lines
