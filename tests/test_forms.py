"""[3] and [4]: the forms of expressions, tests, statements and blocks."""

import unittest

from shorthand import ME, NO, NONE, YES, call, cls, cond, do, f, fn, let, loop, method, n, new, ret, same, say, w
from standsfor.errors import BadProgram
from standsfor.programs import Program

# One of each form, all of which may stand in a method of the class "c".
SIMPLES = [w("a"), NONE, n("x"), ME, f("x"), fn(""), fn("a b c", ret(NONE)), new("c"), new("top")]
CALLS = [("call", NONE, ()), ("call", n("x"), (NONE, ME, w("a"))), ("ask", ME, "m", ()),
         ("ask", f("x"), "none", (NONE, NONE, fn(""))), ("parent", "m", ()), ("parent", "q", (ME, ME, ME))]
TESTS = [same(NONE, NONE), same(ME, f("x")), ("not", YES), ("both", YES, YES), ("either", NO, YES),
         ("not", ("not", YES)), ("both", ("either", YES, YES), NO)]
STATEMENTS = [("let", "x", NONE), ("set", "x", CALLS[0]), ("keep", "x", w("a")), ("do", CALLS[2]), ("print", ME),
              ("return", CALLS[4]), ("raise", NONE), ("if", YES, (), ()), ("while", YES, ()), ("try", (), "x", ()),
              ("last", (), ())]


def in_method(*block):
    """Whether the block may stand in a method of a class with a parent and a field x."""
    top = cls({"m": method("", ret(NONE))})
    heir = cls({"m": ((), block)}, {"x": ("a", "b")}, "top")
    try:
        Program({"top": top, "c": heir}, ())
    except BadProgram as error:
        if error.part != "c.m":
            raise AssertionError(error.part) from error
        return False
    return True


def odd_ones(form):
    """The form with an item too many, one too few, as a list, and with other first words."""
    yield form + (NONE,)
    yield form + ("x",)
    yield form[:-1]
    yield list(form)
    for word in ("", "other", None, 5, True, (), [], {}, ("let",), form[0].upper(), form[0] + " "):
        yield (word,) + form[1:]


class Forms(unittest.TestCase):
    def check(self, forms, statement_of):
        for form in forms:
            with self.subTest(form):
                self.assertTrue(in_method(statement_of(form)))
            for odd in odd_ones(form):
                with self.subTest(odd):
                    self.assertFalse(in_method(statement_of(odd)))

    def test_simples(self):
        self.check(SIMPLES, lambda form: ("print", form))
        self.check(SIMPLES, lambda form: ("do", form))
        self.check(SIMPLES, lambda form: ("do", ("call", form, (form, form, form))))
        self.check(SIMPLES, lambda form: ("if", same(form, form), (), ()))

    def test_calls(self):
        self.check(CALLS, lambda form: ("do", form))
        self.check(CALLS, lambda form: ("let", "x", form))

    def test_tests(self):
        self.check(TESTS, lambda form: ("if", form, (), ()))
        self.check(TESTS, lambda form: ("while", form, ()))

    def test_statements(self):
        self.check(STATEMENTS, lambda form: form)
        self.check(STATEMENTS, lambda form: ("do", fn("", form)))

    def test_kinds_in_each_others_places(self):
        for simple in SIMPLES:
            self.assertFalse(in_method(simple))
            self.assertFalse(in_method(("if", simple, (), ())))
        for right in CALLS:
            self.assertFalse(in_method(right))
            self.assertFalse(in_method(("print", right)))
            self.assertFalse(in_method(("if", right, (), ())))
            self.assertFalse(in_method(("if", same(right, NONE), (), ())))
            self.assertFalse(in_method(("do", ("call", right, ()))))
            self.assertFalse(in_method(("do", ("call", NONE, (right,)))))
            self.assertFalse(in_method(("do", ("ask", right, "m", ()))))
        for test in TESTS:
            self.assertFalse(in_method(test))
            self.assertFalse(in_method(("do", test)))
            self.assertFalse(in_method(("print", test)))
        for statement in STATEMENTS:
            self.assertFalse(in_method(("do", statement)))
            self.assertFalse(in_method(("print", statement)))
            self.assertFalse(in_method(("if", statement, (), ())))

    def test_parts_of_simples(self):
        for bad in ("", "Ab", "abcdefghi", None, 5, True, ("a",), ["a"], {"a": "b"}):
            for kind in ("word", "name", "field", "new"):
                self.assertFalse(in_method(("print", (kind, bad))))
            for statement in (("let", bad, NONE), ("set", bad, NONE), ("keep", bad, NONE), ("try", (), bad, ()),
                              ("do", ("ask", ME, bad, ())), ("do", ("parent", bad, ())), ("do", ("fn", (bad,), ()))):
                self.assertFalse(in_method(statement))

    def test_things(self):
        for many in range(6):
            things = (NONE,) * many
            for right in (("call", NONE, things), ("ask", ME, "m", things), ("parent", "m", things)):
                self.assertEqual(in_method(("do", right)), many <= 3)
        for things in ([], [NONE], None, {}, "none", NONE, ("none",), (("none",), "x")):
            for right in (("call", NONE, things), ("ask", ME, "m", things), ("parent", "m", things)):
                self.assertFalse(in_method(("do", right)))

    def test_params(self):
        for params in ((), ("a",), ("a", "b"), ("a", "b", "c"), ("none", "me", "fn")):
            self.assertTrue(in_method(("do", ("fn", params, ()))))
        for params in (("a", "b", "c", "d"), ("a", "a"), ("a", "b", "a"), ["a"], [], "abc", None, {"a": "b"}, ("A",),
                       (("a",),), (["a"],), ("a", None)):
            self.assertFalse(in_method(("do", ("fn", params, ()))))

    def test_fields_and_classes(self):
        self.assertFalse(in_method(("print", f("y"))))
        self.assertFalse(in_method(("keep", "y", w("a"))))
        self.assertTrue(in_method(("keep", "x", w("zzz"))))
        self.assertFalse(in_method(("print", new("d"))))

    def test_depth_of_tests(self):
        three = [("not", ("not", YES)), ("both", ("not", YES), ("either", YES, YES))]
        for test in three:
            self.assertTrue(in_method(cond(test, ())))
            self.assertTrue(in_method(loop(test)))
            self.assertFalse(in_method(cond(("not", test), ())))
            self.assertFalse(in_method(loop(("not", test))))
            for kind in ("both", "either"):
                self.assertFalse(in_method(cond((kind, test, YES), ())))
                self.assertFalse(in_method(cond((kind, YES, test), ())))

    def test_tests_in_functions_in_tests_count_anew(self):
        inner = same(fn("", cond(("not", ("not", YES)), ())), NONE)
        self.assertTrue(in_method(cond(("not", ("not", inner)), ())))


class Blocks(unittest.TestCase):
    def test_statements_of_a_block(self):
        for many in (0, 1, 11, 12, 13):
            block = (do(NONE),) * many
            wrapped = [block, (cond(YES, block),), (cond(YES, (), block),), (loop(YES, *block),),
                       (("try", block, "x", ()),), (("try", (), "x", block),), (("last", block, ()),),
                       (("last", (), block),), (do(("fn", (), block)),), (do(call(NONE, ("fn", (), block))),)]
            for each in wrapped:
                self.assertEqual(in_method(*each), many <= 12)

    def test_blocks_are_tuples(self):
        for block in ([], [do(NONE)], None, "", {}, {"a": do(NONE)}, do(NONE)):
            for statement in (("if", YES, block, ()), ("if", YES, (), block), ("while", YES, block),
                              ("try", block, "x", ()), ("try", (), "x", block), ("last", block, ()),
                              ("last", (), block), ("do", ("fn", (), block))):
                self.assertFalse(in_method(statement))

    WRAPPERS = [
        lambda block: (cond(YES, block),), lambda block: (cond(YES, (), block),), lambda block: (loop(YES, *block),),
        lambda block: (("try", block, "x", ()),), lambda block: (("try", (), "x", block),),
        lambda block: (("last", block, ()),), lambda block: (("last", (), block),),
        lambda block: (do(fn("", *block)),), lambda block: (do(call(fn("", *block))),),
        lambda block: (do(call(NONE, NONE, fn("", *block))),), lambda block: (let("x", fn("", *block)),),
        lambda block: (cond(same(NONE, fn("", *block)), ()),), lambda block: (loop(same(fn("", *block), NONE)),),
        lambda block: (cond(("not", ("not", same(NONE, fn("", *block)))), ()),),
    ]

    def test_depth_of_blocks(self):
        for at, wrap in enumerate(self.WRAPPERS):
            for inner in ((), (do(NONE),)):
                block = inner
                for _ in range(7):
                    block = wrap(block)
                with self.subTest(at):
                    self.assertTrue(in_method(*block))
                    self.assertFalse(in_method(*wrap(block)))

    def test_depth_of_blocks_of_all_kinds_together(self):
        for first in range(len(self.WRAPPERS)):
            block = (say("a"),)
            for at in range(7):
                block = self.WRAPPERS[(first + 3 * at) % len(self.WRAPPERS)](block)
            self.assertTrue(in_method(*block))
            self.assertFalse(in_method(do(fn("", *block))))

    def test_depth_in_the_body(self):
        block = ()
        for _ in range(7):
            block = (cond(YES, block),)
        self.assertEqual(Program({}, block).body, block)
        with self.assertRaises(BadProgram) as caught:
            Program({}, (cond(YES, block),))
        self.assertEqual(caught.exception.part, "body")


if __name__ == "__main__":
    unittest.main()
