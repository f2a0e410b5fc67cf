"""Plain classes and rows of moves, made by chance from seeds, for the tests."""

import random

from standsfor.plain import is_plain

FIELDS = {"x": ("a", "b"), "y": ("c", "a", "b"), "z": ("b",)}
METHODS = ("mm", "kk", "jj")
NAMES = ("p", "q", "r", "s")
ME = ("me",)
NONE = ("none",)


class PlainMaker:
    def __init__(self, seed, mark=None, size=4, calls=3):
        self.chance = random.Random(seed)
        self.size = size
        self.most_calls = calls
        self.mark = mark or self.pick(("open", "closed"))

    def pick(self, things):
        return self.chance.choice(list(things))

    def cls(self):
        """Some plain class."""
        while True:
            fields = {field: FIELDS[field] for field in FIELDS if self.chance.random() < 0.6}
            methods = {}
            names = METHODS[:self.pick((1, 2, 3, 3, 3))]
            for at, name in enumerate(names):
                methods[name] = self.method(fields, names[at + 1:] * 5 + ("zz",))
            made = (None, self.mark, fields, methods)
            if is_plain(made):
                return made

    def method(self, fields, others):
        self.fields = fields
        self.others = others
        self.calls = self.most_calls
        params = tuple(self.chance.sample(NAMES, self.pick((0, 1, 1, 2))))
        return (params, self.block(1, params)[0])

    def word(self):
        return ("word", self.pick(("a", "b", "b", "c", self.pick(("nofunc", "nomethod", "badword", "a")))))

    def simple(self, sure):
        kinds = ["word", "none", "me"] + ["field"] * (2 * bool(self.fields)) + ["name"] * (5 * bool(sure))
        kind = self.pick(kinds)
        if kind == "word":
            return self.word()
        if kind == "field":
            return ("field", self.pick(sorted(self.fields)))
        return ("name", self.pick(sorted(sure))) if kind == "name" else (kind,)

    def right(self, sure):
        kind = self.pick(("simple", "call", "call", "ask", "ask"))
        if kind == "simple" or self.calls == 0 or kind == "call" and not sure:
            return self.simple(sure)
        self.calls -= 1
        things = tuple(self.simple(sure) for _ in range(self.chance.randrange(3)))
        if kind == "call" or sure and len(self.others) == 1 and self.chance.random() < 0.8:
            return ("call", ("name", self.pick(sorted(sure))), things)
        return ("ask", ME, self.pick(self.others), things)

    def test(self, sure, most=3):
        kind = self.pick(("same", "same", "not", "both", "either")) if most > 1 else "same"
        if kind == "same":
            sides = [self.word() if not self.fields or self.chance.random() < 0.5 else
                     ("field", self.pick(sorted(self.fields))), self.simple(sure)]
            self.chance.shuffle(sides)
            return ("same", *sides)
        if kind == "not":
            return ("not", self.test(sure, most - 1))
        return (kind, self.test(sure, most - 1), self.test(sure, most - 1))

    def block(self, deep, sure):
        """A block, and the names that are sure behind it."""
        sure = set(sure)
        made = []
        for _ in range(self.chance.randrange(self.size if deep == 1 else 0, self.size + 2) if deep < 4 else 1):
            statement, sure = self.statement(deep, sure)
            made.append(statement)
        return tuple(made), sure

    def statement(self, deep, sure):
        kinds = ["let", "let", "let", "do", "return", "raise"] + ["set"] * (2 * bool(sure))
        kinds += ["keep"] * (4 * bool(self.fields)) + ["if", "if", "try", "try", "last", "last"] * (deep < 4)
        kind = self.pick(kinds)
        if kind == "let":
            name = self.pick(NAMES)
            return ("let", name, self.right(sure)), sure | {name}
        if kind == "set":
            return ("set", self.pick(sorted(sure)), self.right(sure)), sure
        if kind == "keep":
            field = self.pick(sorted(self.fields))
            right = ("word", self.pick(self.fields[field])) if self.chance.random() < 0.6 else self.right(sure)
            return ("keep", field, right), sure
        if kind in ("do", "return", "raise"):
            return (kind, self.right(sure)), sure
        if kind == "if":
            test = self.test(sure)
            one, behind = self.block(deep + 1, sure)
            other, also = self.block(deep + 1, sure)
            return ("if", test, one, other), behind & also
        if kind == "try":
            name = self.pick(NAMES)
            one, behind = self.block(deep + 1, sure)
            other, also = self.block(deep + 1, sure | {name})
            return ("try", one, name, other), behind & also
        one, behind = self.block(deep + 1, sure)
        other, also = self.block(deep + 1, sure)
        return ("last", one, other), behind | also

    def incoming(self, words):
        kind = self.pick(("word", "none", "able", "able", "able", "able", "able", "unable"))
        return ("word", self.pick(words)) if kind == "word" and words else ("able",) if kind == "word" else (kind,)

    def move(self, words, waits, methods=METHODS):
        """Some move; waits tells how many frames wait."""
        kind = self.pick(("ask", "give", "give", "throw")) if waits else "ask"
        if kind != "ask":
            return (kind, self.incoming(words))
        return ("ask", self.pick((*methods,) * 9 + ("zz",)), self.incoming(words), self.incoming(words))

    def changed(self, cls):
        """A plain class that is much like this one."""
        parent, mark, fields, methods = cls
        while True:
            name = self.pick(sorted(methods))
            made = {**methods, name: self.altered(methods[name])}
            if made != methods and is_plain((parent, mark, fields, made)):
                return (parent, mark, fields, made)

    def altered(self, thing):
        """The tuple with one of the parts within it changed by chance."""
        spots = []
        left = [((), thing)]
        while left:
            path, part = left.pop()
            spots.append((path, part))
            if isinstance(part, tuple):
                left.extend((path + (at,), inner) for at, inner in enumerate(part))
        path, part = self.pick(spots)
        return self.replaced(thing, path, self.other(part))

    def other(self, part):
        if isinstance(part, tuple) and part and isinstance(part[0], tuple):
            at = self.chance.randrange(len(part))
            return part[:at] + part[at + 1:] if self.chance.random() < 0.5 else part[:at] + part[at:at + 1] + part[at:]
        if isinstance(part, tuple) and part and part[0] in ("word", "none", "me", "name", "field"):
            return self.pick((("word", "a"), ("word", "b"), NONE, ME, ("name", self.pick(NAMES)), ("field", "x")))
        return self.pick(("a", "b", "x", "y")) if isinstance(part, str) and len(part) == 1 else part

    def replaced(self, thing, path, part):
        if not path:
            return part
        inner = self.replaced(thing[path[0]], path[1:], part)
        return thing[:path[0]] + (inner,) + thing[path[0] + 1:]
