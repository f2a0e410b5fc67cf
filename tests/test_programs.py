"""[5] and [6]: classes and programs."""

import unittest

from shorthand import (ME, NONE, YES, ask, body, call, cls, cond, do, f, fn, keep, let, loop, method, n, new, parent,
                       ret, same, say, show, throw, w)
from standsfor.errors import BadName, BadProgram
from standsfor.programs import Program, with_class
from standsfor.runs import run

GOOD = (None, "open", {}, {})


def part_of(classes, block=()):
    """The part that BadProgram tells, None for a program."""
    try:
        Program(classes, block)
    except BadProgram as error:
        return error.part
    return None


class Classes(unittest.TestCase):
    def good(self, thing):
        self.assertIsNone(part_of({"c": thing}))

    def bad(self, thing):
        with self.subTest(thing):
            self.assertEqual(part_of({"c": thing}), "classes")

    def test_the_tuple(self):
        self.good(GOOD)
        for thing in (GOOD[:-1], GOOD + (None,), list(GOOD), (), None, "c", 5, {"a": "b"}, True, ("c",) * 4):
            self.bad(thing)

    def test_mark(self):
        self.good(cls(mark="closed"))
        for mark in ("Open", "", "shut", None, True, 1, ("open",), ["open"], {}):
            self.bad((None, mark, {}, {}))

    def test_parent(self):
        for above in ("", "ABC", "abcdefghi", True, 0, False, (), ("c",), ["c"], {}):
            self.bad((above, "open", {}, {}))

    def test_fields(self):
        for fields in ({"a": ("x",)}, {"a": ("x", "y", "z", "u"), "b": ("x",), "c": ("x",)}, {"if": ("none", "me")}):
            self.good((None, "open", fields, {}))
        for fields in (None, [], (), "a", [("a", ("x",))], {"A": ("x",)}, {1: ("x",)}, {None: ("x",)}, {"a": ()},
                       {"a": ["x"]}, {"a": "x"}, {"a": None}, {"a": ("x", "x")}, {"a": ("x", "y", "z", "u", "v")},
                       {"a": ("X",)}, {"a": (1,)}, {"a": (None,)}, {"a": (["x"],)}, {"a": ("abcdefghi",)},
                       {"a": ("x",), "b": ("x",), "c": ("x",), "d": ("x",)}, {("a",): ("x",)}, {"a": {"x": "y"}}):
            self.bad((None, "open", fields, {}))

    def test_methods(self):
        five = {name: method("") for name in "abcde"}
        for methods in (five, {"m": method("a b c", ret(n("a")))}, {"raise": method("none")}):
            self.good((None, "open", {}, methods))
        for methods in (None, [], (), "a", {**five, "f": method("")}, {"M": method("")}, {1: method("")},
                        {"m": None}, {"m": ()}, {"m": ((),)}, {"m": ((), (), ())}, {"m": [(), ()]}, {"m": ([], ())},
                        {"m": (("a", "a"), ())}, {"m": (("a", "b", "c", "d"), ())}, {"m": ("a", ())},
                        {"m": (("A",), ())}, {"m": ((1,), ())}, {"m": (None, ())}, {"m": fn("")}):
            self.bad((None, "open", {}, methods))

    def test_blocks_are_no_matter_of_classes(self):
        for block in ([], None, "a", (5,), {}, (("do",),)):
            self.assertEqual(part_of({"c": cls({"m": ((), block)})}), "c.m")


class Places(unittest.TestCase):
    """Where me, fields, keep, parent's calls and returns may stand."""

    def around(self, statement):
        """The statement, also within functions, tests and blocks."""
        return [(statement,), (do(fn("", statement)),), (do(call(fn("a", cond(YES, (statement,))))),),
                (loop(same(NONE, fn("", do(fn("", statement)))), statement),)]

    def test_me(self):
        for statement in (show(ME), do(ask(ME, "m")), let("x", call(NONE, ME)), cond(same(NONE, ME), ())):
            for block in self.around(statement):
                self.assertIsNone(part_of({"c": cls({"m": ((), block)})}))
                self.assertEqual(part_of({}, block), "body")

    def test_fields(self):
        for statement in (show(f("x")), do(call(f("x"))), keep("x", w("a")), keep("x", call(NONE))):
            for block in self.around(statement):
                self.assertIsNone(part_of({"c": cls({"m": ((), block)}, {"x": ("a",)})}))
                self.assertEqual(part_of({"c": cls({"m": ((), block)}, {"y": ("a",)})}), "c.m")
                self.assertEqual(part_of({"c": cls({}, {"x": ("a",)})}, block), "body")
                other = {"a": cls({}, {"x": ("a",)}), "c": cls({"m": ((), block)}, {}, "a")}
                self.assertEqual(part_of(other), "c.m")

    def test_parent(self):
        for block in self.around(do(parent("m"))):
            top = cls({"m": method("")})
            self.assertIsNone(part_of({"a": top, "c": cls({"m": ((), block)}, {}, "a")}))
            self.assertEqual(part_of({"a": top, "c": cls({"m": ((), block)})}), "c.m")
            self.assertEqual(part_of({"a": top, "c": cls({}, {}, "a")}, block), "body")

    def test_return(self):
        for block in self.around(ret(NONE))[1:3]:
            self.assertIsNone(part_of({}, block))
        for block in self.around(ret(NONE)):
            self.assertIsNone(part_of({"c": cls({"m": ((), block)})}))
        for block in ((ret(NONE),), (cond(YES, (ret(NONE),)),), (loop(YES, ret(NONE)),), (do(fn("")), ret(NONE)),
                      (("try", (ret(NONE),), "x", ()),), (("last", (), (ret(NONE),)),)):
            self.assertEqual(part_of({}, block), "body")

    def test_new_things(self):
        for block in self.around(show(new("d"))):
            self.assertEqual(part_of({"c": cls({"m": ((), block)})}), "c.m")
            self.assertEqual(part_of({"c": cls()}, block), "body")
            self.assertIsNone(part_of({"c": cls({"m": ((), block)}), "d": cls()}, block))


class Programs(unittest.TestCase):
    def test_attributes(self):
        classes = {"c": cls({"m": method("a", ret(n("a")))}, {"x": ("a",)}), "d": cls(above="c", mark="closed")}
        block = (show(new("d")),)
        program = Program(classes, block)
        self.assertEqual(program.classes, classes)
        self.assertEqual(program.body, block)
        self.assertIsInstance(program.classes, dict)
        self.assertIsInstance(program.classes["c"], tuple)
        self.assertIsInstance(program.body, tuple)

    def test_how_many_classes(self):
        eight = {name: cls() for name in "abcdefgh"}
        self.assertIsNone(part_of(eight))
        self.assertEqual(part_of({**eight, "i": cls()}), "classes")
        self.assertIsNone(part_of({}))

    def test_no_dict_of_classes(self):
        for classes in (None, [], (), "c", [("c", cls())], {"C": cls()}, {1: cls()}, {"": cls()}, {None: cls()},
                        {"abcdefghi": cls()}, {("c",): cls()}, {True: cls()}, {"c": None}):
            with self.subTest(classes):
                self.assertEqual(part_of(classes), "classes")

    def test_parents(self):
        top, shut = cls(), cls(mark="closed")
        self.assertIsNone(part_of({"a": top, "b": cls(above="a"), "c": cls(above="b", mark="closed")}))
        self.assertEqual(part_of({"b": cls(above="a")}), "classes")
        self.assertEqual(part_of({"a": shut, "b": cls(above="a")}), "classes")
        self.assertEqual(part_of({"a": cls(above="a")}), "classes")
        self.assertEqual(part_of({"a": cls(above="b"), "b": cls(above="a")}), "classes")
        self.assertEqual(part_of({"a": cls(above="b"), "b": cls(above="c"), "c": cls(above="b")}), "classes")
        ring = {one: cls(above=other) for one, other in zip("abcdefgh", "bcdefgha")}
        self.assertEqual(part_of(ring), "classes")
        self.assertIsNone(part_of({**ring, "h": top}))

    def test_body(self):
        for block in (None, [], [say("a")], "a", {}, 5, say("a"), (5,), ((),), (("say", "a"),)):
            with self.subTest(block):
                self.assertEqual(part_of({}, block), "body")

    def test_which_part_goes_first(self):
        bad = ((), (5,))
        classes = {"d": cls({"b": bad, "a": bad}), "c": cls({"z": bad, "y": method("")})}
        self.assertEqual(part_of(classes, (5,)), "c.z")
        self.assertEqual(part_of({**classes, "c": cls()}, (5,)), "d.a")
        self.assertEqual(part_of({**classes, "c": cls(), "d": cls()}, (5,)), "body")
        self.assertEqual(part_of({**classes, "e": None}, (5,)), "classes")
        self.assertEqual(part_of({**classes, "e": cls(above="q")}, (5,)), "classes")
        self.assertEqual(part_of({**classes, "b": cls({"m": ([], (5,))})}, (5,)), "classes")
        self.assertEqual(part_of({"ab": cls({"m": bad}), "a": cls({"z": bad})}), "a.z")

    def test_equality(self):
        one = {"c": cls({"m": method("a")}, {"x": ("a", "b")})}
        block = (say("a"),)
        self.assertTrue(Program(one, block) == Program(dict(one), block))
        self.assertFalse(Program(one, block) != Program(dict(one), block))
        for classes, other in (({}, block), (one, ()), (one, (say("b"),)),
                               ({"d": one["c"]}, block), ({"c": cls({"m": method("b")}, {"x": ("a", "b")})}, block),
                               ({"c": cls({"m": method("a")}, {"x": ("b", "a")})}, block),
                               ({"c": cls({"m": method("a")}, {"x": ("a", "b")}, mark="closed")}, block)):
            self.assertFalse(Program(one, block) == Program(classes, other))
            self.assertTrue(Program(one, block) != Program(classes, other))
        for other in (None, 5, "a", (one, block), [one], one, block):
            self.assertFalse(Program(one, block) == other)
            self.assertTrue(Program(one, block) != other)


class WithClass(unittest.TestCase):
    def setUp(self):
        self.talk = cls({"m": method("", say("talk"))})
        self.shout = cls({"m": method("", say("shout"))})
        self.program = Program({"c": self.talk}, (do(ask(new("c"), "m")),))

    def test_in_the_place_of_the_one_there(self):
        other = with_class(self.program, "c", self.shout)
        self.assertIsInstance(other, Program)
        self.assertEqual(run(other), (["shout"], ("done",)))
        self.assertEqual(run(self.program), (["talk"], ("done",)))
        self.assertEqual(other, Program({"c": self.shout}, self.program.body))

    def test_new(self):
        other = with_class(self.program, "d", cls(above="c"))
        self.assertEqual(other.classes, {"c": self.talk, "d": cls(above="c")})
        self.assertEqual(self.program.classes, {"c": self.talk})

    def test_errors(self):
        ahead = Program(self.program.classes, self.program.body)
        for name in ("", "C", None, 5, True, ("c",), ["c"], {}, "abcdefghi"):
            with self.assertRaises(BadName) as caught:
                with_class(self.program, name, None)
            self.assertEqual(caught.exception.name, name)
        for thing, part in ((None, "classes"), (cls(above="q"), "classes"), (cls(above="c"), "classes"),
                            (cls({"b": ((), (5,)), "a": ((), None)}), "c.a"), (list(self.talk), "classes")):
            with self.assertRaises(BadProgram) as caught:
                with_class(self.program, "c", thing)
            self.assertEqual(caught.exception.part, part)
        full = Program({name: cls() for name in "abcdefgh"}, ())
        with self.assertRaises(BadProgram) as caught:
            with_class(full, "i", cls())
        self.assertEqual(caught.exception.part, "classes")
        self.assertEqual(with_class(full, "h", self.talk).classes["h"], self.talk)
        self.assertEqual(self.program, ahead)

    def test_what_the_class_there_was_needed_for(self):
        program = Program({"c": cls(), "d": cls({"m": method("", do(parent("m")))}, above="c")}, ())
        with self.assertRaises(BadProgram) as caught:
            with_class(program, "c", cls(mark="closed"))
        self.assertEqual(caught.exception.part, "classes")
        with self.assertRaises(BadProgram) as caught:
            with_class(program, "c", cls(above="d"))
        self.assertEqual(caught.exception.part, "classes")
        with self.assertRaises(BadProgram) as caught:
            with_class(program, "d", cls({"m": method("", do(parent("m")))}))
        self.assertEqual(caught.exception.part, "d.m")

    def test_a_raise_of_all_kinds_stands_in_a_body(self):
        self.assertEqual(run(body(throw(w("a")))), ([], ("raised", "a")))


if __name__ == "__main__":
    unittest.main()
