"""[11]: runs, their bounds and their refusals."""

import unittest

from shorthand import (ME, NONE, YES, ask, attempt, body, call, chain, cls, cond, do, fn, keep, last, let, loop, method,
                       n, new, packed, parent, put, ret, same, say, show, throw, w)
from standsfor.errors import BadNumber, BadProgram, TooLong
from standsfor.programs import Program
from standsfor.runs import is_run, run

FOREVER = body(loop(YES))


class Bounds(unittest.TestCase):
    def takes(self, program, steps):
        """The program takes just so many steps."""
        told = run(program, most=steps)
        self.assertEqual(told, run(program))
        if steps > 1:
            with self.assertRaises(TooLong) as caught:
                run(program, most=steps - 1)
            self.assertEqual(caught.exception.most, steps - 1)
        return told

    def test_steps_are_beginnings_of_statements(self):
        self.takes(body(), 1)
        self.takes(body(say("a")), 1)
        self.takes(body(say("a"), say("b"), say("c")), 3)
        self.takes(body(cond(YES, (say("a"), say("b")))), 3)
        self.takes(body(cond(("not", YES), (say("a"), say("b")))), 1)
        self.takes(body(attempt((say("a"), throw(w("x")), say("b")), "e", (say("c"),))), 4)
        self.takes(body(attempt((say("a"),), "e", (say("c"), say("d")))), 2)
        self.takes(body(last((say("a"),), (say("c"), say("d")))), 4)
        self.takes(body(last((), ())), 1)
        self.takes(body(throw(w("a")), say("b")), 1)
        self.takes(body(do(call(fn("")))), 1)
        self.takes(body(do(call(fn("", say("a"), ret(NONE), say("b"))))), 3)
        self.takes(Program({"c": cls({"m": method("", say("a"))})}, (do(ask(new("c"), "m")),)), 2)

    def test_a_while_looks_once_more_than_its_rounds(self):
        self.takes(body(loop(("not", YES), say("a"))), 1)
        self.takes(body(let("x", w("a")), loop(same(n("x"), w("a")), let("x", w("b")))), 4)
        further = cond(same(n("x"), w("a")), (let("x", w("b")),), (let("x", w("c")),))
        self.takes(body(let("x", w("a")), loop(("not", same(n("x"), w("c"))), further)), 8)
        self.takes(body(loop(same(n("x"), NONE), say("a"))), 1)

    def test_a_while_with_an_empty_block(self):
        for most in (1, 7, 20000):
            with self.assertRaises(TooLong) as caught:
                run(FOREVER, most=most)
            self.assertEqual(caught.exception.most, most)

    def test_the_bound_that_is_taken(self):
        with self.assertRaises(TooLong) as caught:
            run(FOREVER)
        self.assertEqual(caught.exception.most, 20000)
        rest = 20000 - self.steps_of(counting(60))
        self.assertGreater(rest, 0)
        program = counting(60, rest)
        self.takes(program, 20000)
        with self.assertRaises(TooLong):
            run(counting(60, rest + 1))
        run(counting(60, rest + 1), most=20001)

    def steps_of(self, program):
        low, high = 1, 100000
        while low < high:
            middle = (low + high) // 2
            try:
                run(program, most=middle)
                high = middle
            except TooLong:
                low = middle + 1
        return low

    def test_calls_under_way(self):
        for block in ((say("in"),), ()):
            told = run(Program({}, packed(chain(200, block))))
            self.assertEqual(told, (["in"] if block else [], ("done",)))
            for most in (20000, 1000):
                with self.assertRaises(TooLong) as caught:
                    run(Program({}, packed(chain(201, block))), most=most)
                self.assertEqual(caught.exception.most, most)

    def test_calls_that_do_not_begin(self):
        for statement, word in ((do(call(w("a"))), "nofunc"), (do(ask(w("a"), "m")), "nomethod"),
                                (do(call(n("q"))), "noname"), (do(ask(NONE, "m", n("q"))), "noname")):
            self.assertEqual(run(Program({}, packed(chain(200, (statement,))))), ([], ("raised", word)))

    def test_each_kind_of_call_counts(self):
        methods = {"m": method("f", do(call(n("f")))), "k": method("", do(call(fn("")))), "e": method("")}
        classes = {"c": cls(methods), "d": cls({"e": method("", do(parent("e")))}, above="c")}
        for calls, right in ((199, ask(new("c"), "e")), (199, ask(new("c"), "k")), (198, ask(new("c"), "k")),
                             (198, ask(new("d"), "e")), (199, ask(new("d"), "e")), (200, ask(new("c"), "e")),
                             (200, call(fn("")))):
            needed = {"e": 1, "k": 2}.get(right[2] if right[0] == "ask" else "e") + (right[1:2] == (new("d"),))
            program = Program(classes, packed(chain(calls, (do(right),))))
            if calls + needed <= 200:
                self.assertEqual(run(program), ([], ("done",)))
            else:
                with self.assertRaises(TooLong):
                    run(program)

    def test_calls_that_have_ended_do_not_count(self):
        block = tuple(packed([do(call(n("f")))] * 130))
        program = Program({}, (let("f", fn("")), cond(YES, block), cond(YES, block)))
        self.assertEqual(run(program), ([], ("done",)))
        raising = tuple(packed([attempt((do(call(n("f"))),), "e", ())] * 130))
        program = Program({}, (let("f", fn("", throw(w("a")))), cond(YES, raising), cond(YES, raising)))
        self.assertEqual(run(program), ([], ("done",)))

    def test_too_long_is_no_raise_of_the_language(self):
        endless = fn("", attempt((do(call(n("f"))),), "e", (say("caught"),)))
        with self.assertRaises(TooLong):
            run(body(let("f", endless), do(call(n("f"))), say("never")))


def counting(rounds, rest=0):
    """Three whiles in one another, by words, and then so many steps more."""
    places = ("a", "b", "c", "d")
    add = {}
    for at in range(3):
        field = "xyz"[at]
        block = (keep(field, w("a")),) + ((do(ask(ME, f"add{'abc'[at + 1]}")),) if at < 2 else (put("on", w("no")),))
        for one, two in zip(places[:-1], places[1:]):
            block = (cond(same(("field", field), w(one)), (keep(field, w(two)),), block),)
        add[f"add{'abc'[at]}"] = method("", *block)
    classes = {"c": cls(add, {field: places for field in "xyz"})}
    work = packed([say("a")] * rounds)
    more = ()
    while rest > 0:
        # An if takes a step, and what stands in it one for each.
        here = min(rest, 2000)
        rest -= here
        more += (exactly(here),)
    ahead = (let("on", w("yes")), let("c", new("c")))
    body_block = ahead + (loop(same(n("on"), w("yes")), do(ask(n("c"), "adda")), *((cond(YES, work),))),) + more
    return Program(classes, body_block)


def exactly(steps):
    """A statement that takes just so many steps."""
    if steps == 1:
        return say("b")
    left = steps - 1
    block = []
    while left > 0:
        many = left if len(block) == 11 else min(left, max(1, left // max(1, 12 - len(block))))
        block.append(exactly(many))
        left -= many
    return cond(YES, tuple(block))


class Refusals(unittest.TestCase):
    def test_in_their_order(self):
        for thing in (None, 5, True, "a", (), [], {}, ({}, ()), (FOREVER,), FOREVER.classes, FOREVER.body):
            for most in (0, None, 1):
                with self.assertRaises(BadProgram) as caught:
                    run(thing, most=most)
                self.assertEqual(caught.exception.part, "program")
            with self.assertRaises(BadProgram) as caught:
                is_run(thing, None, None)
            self.assertEqual(caught.exception.part, "program")
        for most in (0, -1, 100001, None, True, False, "5", [5], (5,), {}):
            with self.assertRaises(BadNumber) as caught:
                run(FOREVER, most=most)
            self.assertEqual(caught.exception.number, most)
            self.assertIs(type(caught.exception.number), type(most))

    def test_a_refused_run_changes_nothing(self):
        program = body(let("x", w("a")), loop(YES, show(n("x"))))
        ahead = Program(program.classes, program.body)
        with self.assertRaises(TooLong):
            run(program, most=50)
        self.assertEqual(program, ahead)


class IsRun(unittest.TestCase):
    def test_what_run_tells(self):
        for program in (body(), body(say("a"), say("b")), body(say("a"), throw(NONE)), body(throw(w("a")))):
            self.assertIs(is_run(program, *run(program)), True)

    def test_anything_else(self):
        program = body(say("a"), say("b"), throw(w("c")))
        end = ("raised", "c")
        self.assertIs(is_run(program, ["a", "b"], end), True)
        for lines in (["a"], ["b", "a"], ["a", "b", "c"], [], ("a", "b"), "ab", None, {"a": "b"}, {}, 5, True,
                      [["a"], "b"], ["a", "b", None], [("a",), ("b",)], FOREVER):
            self.assertIs(is_run(program, lines, end), False)
        for wrong in (("done",), ("raised",), ("raised", "d"), ["raised", "c"], "raised", None, ("raised", "c", "c"),
                      ("raised", None), {"raised": "c"}, (), 5, (end,), FOREVER):
            self.assertIs(is_run(program, ["a", "b"], wrong), False)
        self.assertIs(is_run(body(), [], ["done"]), False)
        self.assertIs(is_run(body(), (), ("done",)), False)

    def test_too_long(self):
        for lines, end in (([], ("done",)), (None, None)):
            with self.assertRaises(TooLong) as caught:
                is_run(FOREVER, lines, end)
            self.assertEqual(caught.exception.most, 20000)


class Shape(unittest.TestCase):
    def test_the_tuple(self):
        told = run(body(say("a"), throw(fn(""))))
        self.assertEqual(told, (["a"], ("raised", "function")))
        self.assertIs(type(told), tuple)
        self.assertIs(type(told[0]), list)
        self.assertIs(type(told[1]), tuple)


if __name__ == "__main__":
    unittest.main()
