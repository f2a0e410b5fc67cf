"""[2]: what holds everywhere."""

import contextlib
import copy
import inspect
import sys
import unittest

import standsfor.errors as errors
from shorthand import (NONE, YES, ask, attempt, body, call, chain, cls, cond, deep, do, fn, last, let, loop, method, n,
                       new, packed, ret, say, show, throw, w)
from standsfor.errors import BadName, BadNumber, BadProgram, StandError, TooLong
from standsfor.names import is_integer, is_name
from standsfor.programs import Program, with_class
from standsfor.runs import is_run, run
from standsfor.sessions import Session

ATTRIBUTES = {
    "BadProgram": ["part"], "BadName": ["name"], "BadNumber": ["number"], "TooLong": ["most"], "Ended": [],
    "NothingDone": [], "NotPlain": ["cls"], "BadWords": ["words"], "BadMove": ["move"], "BadMark": ["cls"],
    "TooMany": ["most"], "NotAlike": ["moves"], "BadEvent": ["event"], "NoText": ["name"], "BadText": ["line"],
}

ODD_VALUES = [None, True, False, 0, 1, -1, "", "A", "a b", "abcdefghi", (), [], {}, ("a",), ["a"], {"a": 1}, {1: "a"},
              {("a",): []}, (None, "open", {}, {}), deep("tuple"), deep("list"), deep("dict")]


class Errors(unittest.TestCase):
    def test_each_stands_directly_under_stand_error(self):
        self.assertEqual(StandError.__bases__, (ValueError,))
        for name in ATTRIBUTES:
            with self.subTest(name):
                self.assertEqual(getattr(errors, name).__bases__, (StandError,))

    def test_no_other_error_class(self):
        own = [name for name, thing in vars(errors).items() if isinstance(thing, type)]
        self.assertEqual(sorted(own), sorted(list(ATTRIBUTES) + ["StandError"]))

    def test_attributes_in_the_order_of_the_arguments(self):
        for name, attributes in ATTRIBUTES.items():
            with self.subTest(name):
                values = [["a", (at, {"b": [2]})] for at in range(len(attributes))]
                error = getattr(errors, name)(*values)
                self.assertEqual([getattr(error, attribute) for attribute in attributes], values)
                with self.assertRaises(StandError):
                    raise error

    def test_attributes_do_not_change_with_what_was_passed(self):
        passed = [1, ({"a": [2]},)]
        error = BadNumber(passed)
        passed[1][0]["a"].append(3)
        passed.append(4)
        self.assertEqual(error.number, [1, ({"a": [2]},)])

    def test_any_value_is_told(self):
        for value in ODD_VALUES:
            for name, attributes in ATTRIBUTES.items():
                if attributes:
                    told = getattr(getattr(errors, name)(value), attributes[0])
                    self.assertEqual(told, value)
                    self.assertIs(type(told), type(value))

    def test_a_value_that_is_large_part_by_part(self):
        for doubled in (lambda part: [part, part], lambda part: (part, part), lambda part: {"a": part, "b": part}):
            many = []
            for _ in range(59):
                many = doubled(many)
            self.assertEqual(len(BadNumber(many).number), 2)


class Names(unittest.TestCase):
    GOOD = ["a", "z", "ab", "abcdefgh", "zzzzzzzz", "if", "none"]
    BAD = ["", "abcdefghi", "A", "aB", "a1", "a_b", "a b", " a", "a\n", "-", "\u00e4", "\u03b1", "a\u00df", "\uff41",
           None, True, 1, 0, ("a",), ["a"], {"a": 1}, b"a", (), [], {}]

    def test_names(self):
        for name in self.GOOD:
            self.assertIs(is_name(name), True)
            self.assertEqual(with_class(body(), name, cls()).classes, {name: cls()})
        for name in self.BAD:
            with self.subTest(name):
                self.assertIs(is_name(name), False)
                with self.assertRaises(BadName) as caught:
                    with_class(body(), name, cls())
                self.assertEqual(caught.exception.name, name)

    def test_words(self):
        for word in self.GOOD:
            self.assertEqual(run(body(say(word))), ([word], ("done",)))
        for word in self.BAD:
            with self.subTest(word), self.assertRaises(BadProgram) as caught:
                Program({}, (("print", ("word", word)),))
            self.assertEqual(caught.exception.part, "body")

    def test_names_of_variables(self):
        for name in self.GOOD:
            self.assertEqual(run(body(let(name, w("x")), show(n(name)))), (["x"], ("done",)))
        for name in self.BAD:
            with self.subTest(name), self.assertRaises(BadProgram):
                Program({}, (let(name, NONE),))

    def test_integers(self):
        for number in (-5, 0, 1, 10 ** 30):
            self.assertIs(is_integer(number), True)
        for number in (True, False, None, "1", (1,), [1], 1.0):
            self.assertIs(is_integer(number), False)


class Most(unittest.TestCase):
    def test_bounds(self):
        program = body(say("a"))
        for most in (1, 2, 99999, 100000):
            self.assertEqual(run(program, most=most), (["a"], ("done",)))
        for most in ODD_VALUES + [100001, -1, 10 ** 40, "1", (1,), 1.0]:
            if most != 1 or isinstance(most, bool) or isinstance(most, float):
                with self.subTest(most), self.assertRaises(BadNumber) as caught:
                    run(program, most=most)
                self.assertEqual(caught.exception.number, most)
                self.assertIs(type(caught.exception.number), type(most))

    def test_most_by_keyword_alone(self):
        with self.assertRaises(TypeError):
            run(body(), 5)


class Copies(unittest.TestCase):
    def setUp(self):
        self.fields = {"x": ("a", "b")}
        self.methods = {"m": method("", say("m"))}
        self.classes = {"c": (None, "open", self.fields, self.methods)}
        self.body = (let("t", new("c")), do(ask(n("t"), "m")))

    def test_arguments_stay(self):
        ahead = copy.deepcopy(self.classes)
        program = Program(self.classes, self.body)
        run(program)
        with_class(program, "d", self.classes["c"])
        Session(program).run(9)
        self.assertEqual(self.classes, ahead)

    def test_what_was_passed_is_changed_later(self):
        ahead = copy.deepcopy(self.classes)
        program = Program(self.classes, self.body)
        session = Session(program)
        self.fields["y"] = ("c",)
        self.methods["m"] = method("", say("other"))
        self.methods["q"] = "nothing"
        self.classes["d"] = 5
        self.assertEqual(program.classes, ahead)
        self.assertEqual(run(program), (["m"], ("done",)))
        self.assertEqual(session.run(9), ["m"])

    def test_what_was_told_is_changed_later(self):
        program = Program(self.classes, self.body)
        ahead = copy.deepcopy(self.classes)
        told = program.classes
        told["c"][2]["x"] = 5
        told["c"][3].clear()
        told["e"] = 5
        self.assertEqual(program.classes, ahead)
        self.assertIsNot(program.classes, program.classes)
        self.assertIsNot(program.classes["c"][3], program.classes["c"][3])
        self.assertEqual(run(program), (["m"], ("done",)))

    def test_with_class_copies(self):
        made = with_class(Program({}, ()), "c", self.classes["c"])
        self.fields["y"] = ("c",)
        self.assertEqual(made.classes["c"][2], {"x": ("a", "b")})

    def test_lines_of_a_run_are_new(self):
        program = body(say("a"))
        run(program)[0].append("b")
        self.assertEqual(run(program), (["a"], ("done",)))

    def test_what_a_session_told_is_changed_later(self):
        session = Session(Program(self.classes, (say("a"),) + self.body))
        printed = session.step()
        printed.append("x")
        lines = session.lines()
        lines.append("x")
        self.assertEqual(session.lines(), ["a"])
        session.step()
        names = session.names()
        names["t"] = "x"
        names["u"] = "x"
        self.assertEqual(session.names(), {"t": "thing"})
        session.step()
        fields = session.fields()
        fields["x"] = "z"
        self.assertEqual(session.fields(), {"x": "a"})
        session.run(0).append("x")
        more = session.run(1)
        more.append("x")
        self.assertEqual(session.lines(), ["a", "m"])
        session.back()
        session.back()
        session.back()
        session.back()
        self.assertEqual(session.step(), ["a"])
        self.assertEqual(session.names(), {})

    def test_order_of_keys_means_nothing(self):
        one = cls({"a": method("", say("a")), "b": method("", say("b"))}, {"x": ("p",), "y": ("q",)})
        other = cls({"b": method("", say("b")), "a": method("", say("a"))}, {"y": ("q",), "x": ("p",)})
        self.assertEqual(Program({"c": one, "d": one}, ()), Program({"d": other, "c": other}, ()))
        bad = method("", throw(("me", "me")))
        for methods in ({"b": bad, "a": bad}, {"a": bad, "b": bad}):
            for order in (("d", "c"), ("c", "d")):
                with self.assertRaises(BadProgram) as caught:
                    Program({name: cls(methods) for name in order}, ())
                self.assertEqual(caught.exception.part, "c.a")


class Flags(unittest.TestCase):
    def test_is_run_gives_flags(self):
        self.assertIs(is_run(body(), [], ("done",)), True)
        self.assertIs(is_run(body(), [], None), False)


def eight_deep(statement):
    """A block of a function that itself is four deep, with the statement eight deep."""
    block = (loop(YES, statement, ret(NONE)),)
    block = (attempt((throw(w("a")),), "e", block),)
    block = (last(block, ()),)
    return (cond(("not", YES), (), block),)


@contextlib.contextmanager
def limit_of_calls(many):
    """Lets Python's own calls go only so much deeper than here."""
    depth = len(inspect.stack(0))
    limit = sys.getrecursionlimit()
    sys.setrecursionlimit(depth + many)
    try:
        yield
    finally:
        sys.setrecursionlimit(limit)


class Depth(unittest.TestCase):
    def far(self, calls):
        """So many calls under way, blocks eight deep ahead of each further one."""
        return Program({}, packed(chain(calls, (say("deep"),), eight_deep)))

    def test_deep_blocks_in_many_calls(self):
        self.assertEqual(run(self.far(200)), (["deep"], ("done",)))
        with self.assertRaises(TooLong):
            run(self.far(201))

    def test_run_takes_no_deep_calls_in_python(self):
        program = self.far(200)
        with limit_of_calls(60):
            self.assertEqual(Program(program.classes, program.body), program)
            self.assertEqual(run(program), (["deep"], ("done",)))
            self.assertEqual(Session(program).run(10 ** 6), ["deep"])

    def test_session_far_down_takes_odd_values(self):
        session = Session(self.far(200))
        while session.depth() < 200:
            session.step()
        names = session.names()
        with limit_of_calls(200):
            for value in ODD_VALUES:
                if not (is_integer(value) and value >= 0):
                    with self.assertRaises(BadNumber):
                        session.run(value)
                with self.assertRaises(BadName):
                    session.trying(lambda inner, name=value: self.fail_far_down(inner, (name,)))
        self.assertEqual((session.depth(), session.names()), (200, names))
        self.assertEqual(session.run(10 ** 6), ["deep"])
        self.assertEqual(session.end(), ("done",))

    def fail_far_down(self, session, value):
        session.run(10 ** 6)
        with_class(body(), value, cls())

    def test_values_thrown_through_many_calls(self):
        program = Program({}, packed(chain(200, (throw(w("up")),), eight_deep)))
        self.assertEqual(run(program), ([], ("raised", "up")))

    def test_odd_values_everywhere(self):
        program = body(say("b"))
        for value in ODD_VALUES:
            with self.assertRaises(BadProgram):
                run(value)
            with self.assertRaises(BadProgram):
                is_run(value, [], ("done",))
            self.assertIs(is_run(program, value, ("done",)), False)
            self.assertIs(is_run(program, ["b"], value), False)
            self.assertIs(is_run(program, value, value), False)
            if value != {}:
                with self.assertRaises(BadProgram):
                    Program(value, ())
            if value != ():
                with self.assertRaises(BadProgram):
                    Program({}, value)
            if value != (None, "open", {}, {}):
                with self.assertRaises(BadProgram):
                    Program({"c": value}, ())
                with self.assertRaises(BadProgram):
                    with_class(program, "c", value)
            for statement in (("do", value), ("print", value), ("if", value, (), ()), ("if", YES, value, ("a",)),
                              ("do", ("fn", value, ("a",))), ("do", ("call", NONE, (value,))), (value,), value):
                with self.subTest(statement), self.assertRaises(BadProgram):
                    Program({}, (statement,))

    def test_deep_functions_are_checked_without_deep_calls(self):
        block = ()
        for _ in range(100):
            block = (do(call(fn("", *block))),)
        with self.assertRaises(BadProgram):
            Program({}, block)


if __name__ == "__main__":
    unittest.main()
