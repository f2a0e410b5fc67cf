"""Many programs, made by chance from fixed seeds, as a second way to run them does them."""

import random
import sys
import unittest

from reference import Long, Runner
from standsfor.errors import TooLong
from standsfor.programs import Program
from standsfor.runs import is_run, run
from standsfor.sessions import Session

NAMES = "abcf"
WORDS = ("p", "q", "nofunc")
CLASSES = ("box", "heir", "shut")
FIELDS = {"box": {"x": ("p", "q"), "y": ("q", "r", "p")}, "heir": {"x": ("q", "p")}, "shut": {}}
ABOVE = {"box": None, "heir": "box", "shut": "heir"}


class Maker:
    def __init__(self, seed):
        self.chance = random.Random(seed)

    def pick(self, things):
        return self.chance.choice(list(things))

    def simple(self, deep, text):
        kinds = ["word", "word", "none", "name", "name", "name", "new"]
        if deep < 5:
            kinds += ["fn", "fn"]
        if text:
            kinds += ["me", "me"] + ["field"] * bool(FIELDS[text])
        kind = self.pick(kinds)
        if kind == "word":
            return ("word", self.pick(WORDS))
        if kind == "name":
            return ("name", self.pick(NAMES))
        if kind == "field":
            return ("field", self.pick(FIELDS[text]))
        if kind == "new":
            return ("new", self.pick(CLASSES))
        if kind == "fn":
            params = tuple(self.chance.sample(NAMES, self.chance.randrange(3)))
            return ("fn", params, self.block(deep + 1, text, True))
        return (kind,)

    def right(self, deep, text):
        kind = self.pick(["simple", "call", "call", "ask", "ask"] + ["parent"] * bool(text and ABOVE[text]))
        if kind == "simple":
            return self.simple(deep, text)
        things = tuple(self.simple(deep, text) for _ in range(self.chance.randrange(3)))
        if kind == "parent":
            return ("parent", self.pick("mk"), things)
        target = ("name", self.pick(NAMES)) if self.chance.random() < 0.7 else self.simple(deep, text)
        return ("call", target, things) if kind == "call" else ("ask", target, self.pick("mk"), things)

    def test(self, deep, text, most=3):
        kind = self.pick(["same", "same", "not", "both", "either"]) if most > 1 else "same"
        if kind == "same":
            return ("same", self.simple(deep + 3, text), self.simple(deep + 3, text))
        if kind == "not":
            return ("not", self.test(deep, text, most - 1))
        return (kind, self.test(deep, text, most - 1), self.test(deep, text, most - 1))

    def statement(self, deep, text, returns):
        kinds = ["let"] * 5 + ["set"] * 2 + ["do"] * 3 + ["print"] * 3 + ["raise"] + ["return"] * (2 * returns)
        if text and FIELDS[text]:
            kinds += ["keep"] * 3
        if deep < 6:
            kinds += ["if", "while", "try", "try", "try", "last"]
        kind = self.pick(kinds)
        if kind in ("let", "set"):
            return (kind, self.pick(NAMES), self.right(deep, text))
        if kind == "keep":
            return (kind, self.pick(FIELDS[text]), self.right(deep, text))
        if kind in ("do", "return", "raise"):
            return (kind, self.right(deep, text))
        if kind == "print":
            return (kind, self.simple(deep, text))
        if kind == "if":
            blocks = (self.block(deep + 1, text, returns), self.block(deep + 1, text, returns))
            return (kind, self.test(deep, text)) + blocks
        if kind == "while":
            return (kind, self.test(deep, text), self.block(deep + 1, text, returns))
        if kind == "try":
            return (kind, self.block(deep + 1, text, returns), self.pick(NAMES), self.block(deep + 1, text, returns))
        return (kind, self.block(deep + 1, text, returns), self.block(deep + 1, text, returns))

    def block(self, deep, text, returns):
        if deep > 1:
            return tuple(self.statement(deep, text, returns) for _ in range(self.chance.randrange(4)))
        # A raise in a statement of the body does not end all that stands behind it.
        block = tuple(self.statement(3, text, returns) for _ in range(8))
        return tuple(("try", (statement,), "e", ()) if self.chance.random() < 0.8 else statement for statement in block)

    def program(self):
        classes = {}
        for name in CLASSES:
            methods = {}
            for method in self.chance.sample("mk", self.chance.randrange(3)):
                params = tuple(self.chance.sample(NAMES, self.chance.randrange(3)))
                methods[method] = (params, self.block(2, name, True))
            classes[name] = (ABOVE[name], "open", FIELDS[name], methods)
        return Program(classes, self.start() + self.block(1, None, False))

    def start(self):
        """Lets of names to a word, a thing and functions, so that the calls behind find something."""
        starts = [("word", self.pick(WORDS)), ("new", self.pick(CLASSES)),
                  ("fn", ("a",), self.block(2, None, True)), ("fn", ("b", "c"), self.block(2, None, True))]
        self.chance.shuffle(starts)
        return tuple(("let", name, start) for name, start in zip(NAMES, starts))


def sight(session):
    return (session.at(), session.depth(), session.names(), session.fields(), session.lines())


class Reference(unittest.TestCase):
    MOST = 400

    def check(self, seed):
        program = Maker(seed).program()
        try:
            runner = Runner(program, self.MOST)
        except Long:
            with self.assertRaises(TooLong):
                run(program, most=self.MOST)
            return "long"
        self.assertEqual(run(program, most=self.MOST), (runner.lines, runner.end))
        self.assertTrue(is_run(program, runner.lines, runner.end))
        session = Session(program)
        for expected in runner.trace[:-1]:
            self.assertEqual(sight(session), expected)
            self.assertIsNone(session.end())
            session.step()
        self.assertEqual(sight(session), runner.trace[-1])
        self.assertEqual(session.end(), runner.end)
        for expected in reversed(runner.trace[:-1]):
            session.back()
            self.assertEqual(sight(session), expected)
        return runner.end[0] if runner.steps > 12 else "short"

    def test_programs(self):
        ends = {}
        limit = sys.getrecursionlimit()
        sys.setrecursionlimit(20000)
        self.addCleanup(sys.setrecursionlimit, limit)
        for seed in range(1500):
            with self.subTest(seed):
                end = self.check(seed)
                ends[end] = ends.get(end, 0) + 1
        for end in ("done", "raised", "long"):
            self.assertGreater(ends.get(end, 0), 20, ends)


if __name__ == "__main__":
    unittest.main()
