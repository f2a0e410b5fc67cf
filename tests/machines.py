"""Plain classes, made by chance from seeds, whose things go from standing to standing by many moves, for the tests."""

import random

from shorthand import NONE, call, cls, cond, do, f, keep, let, method, n, ret, same, w

FIELDS = {"x": tuple("abcd"), "y": tuple("abc")}


class MachineMaker:
    def __init__(self, seed):
        self.chance = random.Random(seed)

    def keep(self):
        return keep(self.chance.choice("xy"), w(self.chance.choice("abc")))

    def steps(self):
        made = []
        for _ in range(self.chance.randrange(1, 4)):
            test = same(f(self.chance.choice("xy")), w(self.chance.choice("abc")))
            if self.chance.random() < 0.5:
                test = ("both", test, same(f("y"), w(self.chance.choice("abc"))))
            made.append(cond(test, (self.keep(), ret(NONE)) if self.chance.random() < 0.6 else (self.keep(),)))
        return made

    def hold(self):
        """Calls, and looks behind the call at what was there ahead of it."""
        made = []
        if self.chance.random() < 0.7:
            made.append(cond(same(f("x"), w(self.chance.choice("abc"))), (self.keep(), do(call(n("p"))))))
        made.append(let("u", f(self.chance.choice("xy"))))
        if self.chance.random() < 0.6:
            made.append(self.keep())
        return [*made, do(call(n("p"))), *self.steps(),
                cond(same(n("u"), f("x")), (keep("x", w(self.chance.choice("abcd"))),))]

    def classes(self, *words):
        """For each word a class, alike but for this word, which they tell in one standing."""
        methods = {"h": method("p", *self.hold()), "k": method("p", *self.hold()), "u": method("", *self.steps())}
        test = ("both", same(f("x"), w("d")), same(f("y"), w(self.chance.choice("abc"))))
        mark = self.chance.choice(("open", "closed"))
        return [cls({**methods, "g": method("", cond(test, (ret(w(word)),)))}, FIELDS, mark=mark) for word in words]
