"""[32]: desks, which keep programs by names."""

import copy
import unittest

from counters import doubling, moves_of_doubling
from shorthand import (NONE, YES, ask, body, call, cls, cond, deep, f, keep, let, loop, method, n, new, ret,
                       same, say, show, throw, w)
from standsfor.desks import Desk
from standsfor.errors import BadMark, BadName, BadProgram, NotAlike, NothingDone, NotPlain, TooLong, TooMany
from standsfor.exchange import exchanged, fewer_classes
from standsfor.programs import Program, with_class
from standsfor.sessions import Session
from test_general import ODD_VALUES, limit_of_calls

A = w("a")
B = w("b")
SWITCH = cls({"turn": method("", cond(same(f("x"), A), (keep("x", B),), (keep("x", A),)), ret(f("x")))},
             {"x": ("a", "b")})
NEGATED = cls({"turn": method("", cond(same(f("no"), B), (keep("no", A),), (keep("no", B),)),
                              cond(same(f("no"), A), (ret(B),), (ret(A),)))}, {"no": ("b", "a")})
OTHER = cls({"turn": method("", ret(B))})
NOT_PLAIN = cls({"turn": method("", say("b"))})
MANY = cls({"m": method("p", *[let(name, call(n("p"))) for name in "abcdefghij"])})
CLOSED = (None, "closed", *SWITCH[2:])


def turns(**classes):
    return body(let("t", new("s")), let("r", ask(n("t"), "turn")), show(n("r")), let("r", ask(n("t"), "turn")),
                show(n("r")), **classes)


ONE = turns(s=SWITCH, z=NEGATED, odd=NOT_PLAIN, shut=CLOSED)
TWO = body(say("two"))
LONG = body(say("a"), loop(YES))
WIDE = body(m=MANY, n=MANY)


def sight(desk):
    return [(name, desk.program(name)) for name in desk.names()]


class Checked(unittest.TestCase):
    def setUp(self):
        self.desk = Desk()
        for name, program in (("one", ONE), ("two", TWO), ("long", LONG), ("wide", WIDE)):
            self.desk.put(name, program)

    def raises(self, error, attribute, value, method, *args):
        """That it raises and changes nothing."""
        ahead = sight(self.desk)
        with self.assertRaises(error) as caught:
            method(*args)
        if attribute is not None:
            self.assertEqual(getattr(caught.exception, attribute), value)
            self.assertIs(type(getattr(caught.exception, attribute)), type(value))
        self.assertEqual(sight(self.desk), ahead)
        return caught.exception


class Deeds(Checked):
    def test_a_new_desk(self):
        desk = Desk()
        self.assertEqual(desk.names(), [])
        self.assertRaises(NothingDone, desk.undo)
        self.assertEqual(desk, Desk())

    def test_put(self):
        desk = Desk()
        self.assertIsNone(desk.put("b", ONE))
        self.assertIsNone(desk.put("a", ONE))
        self.assertIsNone(desk.put("ab", TWO))
        self.assertEqual(desk.names(), ["a", "ab", "b"])
        self.assertEqual([desk.program(name) for name in desk.names()], [ONE, TWO, ONE])
        for name in ("if", "none", "abcdefgh"):
            desk.put(name, TWO)
            self.assertEqual(desk.program(name), TWO)

    def test_put_refuses(self):
        for name in ODD_VALUES + ["one", "two", ("c",), ["c"], "A b"]:
            if name != "a":
                self.raises(BadName, "name", name, self.desk.put, name, None)
                self.raises(BadName, "name", name, self.desk.put, name, TWO)
        for program in ODD_VALUES + [SWITCH, (ONE.classes, ONE.body), "body\n", Session(TWO), Desk()]:
            self.raises(BadProgram, "part", "program", self.desk.put, "new", program)

    def test_drop(self):
        self.assertIsNone(self.desk.drop("two"))
        self.assertEqual(self.desk.names(), ["long", "one", "wide"])
        for name in ODD_VALUES + ["two", "three", ("one",), ["one"]]:
            self.raises(BadName, "name", name, self.desk.drop, name)
        self.desk.put("two", ONE)
        self.assertEqual(self.desk.program("two"), ONE)

    def test_exchange(self):
        self.assertIsNone(self.desk.exchange("one", "s", NEGATED))
        self.assertEqual(self.desk.program("one"), with_class(ONE, "s", NEGATED))
        self.assertEqual(self.desk.program("one"), exchanged(ONE, "s", NEGATED))
        self.assertEqual(self.desk.program("two"), TWO)
        self.assertIsNone(self.desk.exchange("one", "s", SWITCH))
        self.assertEqual(self.desk.program("one"), ONE)

    def test_exchange_refuses(self):
        exchange = self.desk.exchange
        for name in ODD_VALUES + ["three", ("one",), ["one"]]:
            self.raises(BadName, "name", name, exchange, name, None, None)
            self.raises(BadName, "name", name, exchange, name, "s", NEGATED)
            self.raises(BadName, "name", name, exchange, "one", name, None)
        self.raises(NotPlain, "cls", NOT_PLAIN, exchange, "one", "odd", None)
        for wrong in ODD_VALUES + [NOT_PLAIN]:
            if wrong != (None, "open", {}, {}):
                self.raises(NotPlain, "cls", wrong, exchange, "one", "shut", wrong)
        self.raises(BadMark, "cls", OTHER, exchange, "one", "shut", OTHER)
        self.raises(TooMany, "most", 2000, exchange, "wide", "m", MANY)
        error = self.raises(NotAlike, None, None, exchange, "one", "s", OTHER)
        self.assertEqual(len(error.moves), 2)
        self.desk.put("deep", body(c=doubling(2, 10, "b")))
        self.assertGreater(moves_of_doubling(10), 2000)
        self.raises(TooMany, "most", 2000, exchange, "deep", "c", doubling(2, 10, "c"))

    def test_lessen(self):
        self.assertIsNone(self.desk.lessen("one"))
        self.assertEqual(self.desk.program("one"), turns(s=SWITCH, odd=NOT_PLAIN, shut=CLOSED))
        self.assertEqual(self.desk.program("one"), fewer_classes(ONE))
        self.desk.lessen("two")
        self.assertEqual(self.desk.program("two"), TWO)
        for name in ODD_VALUES + ["three", ("one",), ["one"]]:
            self.raises(BadName, "name", name, self.desk.lessen, name)
        self.raises(TooMany, "most", 2000, self.desk.lessen, "wide")

    def test_lines(self):
        self.assertEqual(self.desk.lines("one"), ["b", "a"])
        self.assertEqual(self.desk.lines("two"), ["two"])
        self.desk.put("raises", body(say("x"), throw(NONE), say("y")))
        self.assertEqual(self.desk.lines("raises"), ["x"])
        for name in ODD_VALUES + ["three", ("one",), ["one"]]:
            self.raises(BadName, "name", name, self.desk.lines, name)
            self.raises(BadName, "name", name, self.desk.program, name)
        self.raises(TooLong, "most", 20000, self.desk.lines, "long")

    def test_lines_stay_behind_exchange_and_lessen(self):
        for deed in (lambda: self.desk.exchange("one", "s", NEGATED), lambda: self.desk.exchange("one", "z", SWITCH),
                     lambda: self.desk.lessen("one"), lambda: self.desk.exchange("one", "s", SWITCH)):
            deed()
            self.assertEqual(self.desk.lines("one"), ["b", "a"])
        self.assertEqual(self.desk.program("one"), turns(s=SWITCH, odd=NOT_PLAIN, shut=CLOSED))

    def test_what_was_told_and_is_changed_later(self):
        ahead = sight(self.desk)
        self.desk.names().append("more")
        self.desk.lines("one").append("more")
        self.desk.program("one").classes.clear()
        self.desk.program("one").classes["s"][3].clear()
        self.assertEqual((sight(self.desk), self.desk.lines("one")), (ahead, ["b", "a"]))

    def test_what_was_passed_and_is_changed_later(self):
        other = copy.deepcopy(NEGATED)
        self.desk.exchange("one", "s", other)
        other[2].clear()
        other[3]["turn"] = method("")
        self.assertEqual(self.desk.program("one").classes["s"], NEGATED)
        self.assertEqual(self.desk.lines("one"), ["b", "a"])

    def test_arguments_stay(self):
        program, other = copy.deepcopy(ONE), copy.deepcopy(NEGATED)
        desk = Desk()
        desk.put("one", program)
        desk.exchange("one", "s", other)
        desk.lessen("one")
        self.assertEqual((program, other), (ONE, NEGATED))


class Undo(Checked):
    def test_through_all_deeds(self):
        desk = self.desk
        deeds = [lambda: desk.exchange("one", "s", NEGATED), lambda: desk.drop("two"), lambda: desk.lessen("one"),
                 lambda: desk.put("two", ONE), lambda: desk.exchange("two", "s", SWITCH), lambda: desk.drop("one"),
                 lambda: desk.put("one", TWO), lambda: desk.lessen("one"), lambda: desk.drop("two")]
        sights = []
        for deed in deeds:
            sights.append(sight(desk))
            deed()
        while sights:
            self.assertIsNone(desk.undo())
            self.assertEqual(sight(desk), sights.pop())
        for many in range(3, -1, -1):
            desk.undo()
            self.assertEqual(len(desk.names()), many)
        for _ in range(2):
            self.raises(NothingDone, None, None, desk.undo)
        self.assertEqual(desk, Desk())

    def test_deeds_that_change_nothing_are_deeds(self):
        self.desk.lessen("two")
        self.desk.exchange("one", "s", SWITCH)
        self.desk.undo()
        self.desk.undo()
        self.assertEqual(self.desk.names(), ["long", "one", "two", "wide"])
        self.desk.undo()
        self.assertEqual(self.desk.names(), ["long", "one", "two"])

    def test_what_was_refused_is_no_deed(self):
        for refused in (lambda: self.desk.put("one", ONE), lambda: self.desk.drop("three"),
                        lambda: self.desk.exchange("one", "s", OTHER), lambda: self.desk.lessen("wide"),
                        lambda: self.desk.lines("long")):
            with self.assertRaises(ValueError):
                refused()
        self.desk.names()
        self.desk.lines("one")
        self.desk.undo()
        self.assertEqual(self.desk.names(), ["long", "one", "two"])

    def test_going_on_behind_an_undo(self):
        self.desk.undo()
        self.desk.put("new", TWO)
        self.desk.undo()
        self.desk.undo()
        self.assertEqual(self.desk.names(), ["one", "two"])


class Boom(Exception):
    pass


class Trying(Checked):
    def test_what_the_function_returns(self):
        value = ["anything"]
        self.assertIs(self.desk.trying(lambda desk: value), value)
        self.assertIsNone(self.desk.trying(lambda desk: None))
        self.assertIs(self.desk.trying(lambda desk: desk), self.desk)

    def test_everything_is_put_back(self):
        ahead = sight(self.desk)

        def deeds(desk):
            desk.drop("one")
            desk.put("new", ONE)
            desk.lessen("new")
            desk.exchange("new", "s", NEGATED)
            return desk.names(), desk.lines("new")

        self.assertEqual(self.desk.trying(deeds), (["long", "new", "two", "wide"], ["b", "a"]))
        self.assertEqual(sight(self.desk), ahead)
        self.desk.undo()
        self.assertEqual(self.desk.names(), ["long", "one", "two"])

    def test_what_was_undone_is_put_back(self):
        def undo_all(desk):
            for _ in range(4):
                desk.undo()
            with self.assertRaises(NothingDone):
                desk.undo()
            desk.put("one", TWO)
            return desk.lines("one")

        ahead = sight(self.desk)
        self.assertEqual(self.desk.trying(undo_all), ["two"])
        self.assertEqual(sight(self.desk), ahead)
        for many in range(3, -1, -1):
            self.desk.undo()
            self.assertEqual(len(self.desk.names()), many)
        self.assertRaises(NothingDone, self.desk.undo)

    def test_also_if_an_error_is_raised(self):
        ahead = sight(self.desk)
        errors = [Boom("why"), KeyError("k"), BadName("x"), RecursionError(), KeyboardInterrupt()]

        def fail(desk, error):
            desk.drop("one")
            desk.undo()
            desk.undo()
            raise error

        for error in errors:
            with self.assertRaises(type(error)) as caught:
                self.desk.trying(lambda desk, error=error: fail(desk, error))
            self.assertIs(caught.exception, error)
            self.assertEqual(sight(self.desk), ahead)
        with self.assertRaises(BadName) as caught:
            self.desk.trying(lambda desk: (desk.drop("one"), desk.drop("one")))
        self.assertEqual((caught.exception.name, sight(self.desk)), ("one", ahead))
        self.desk.undo()
        self.assertEqual(self.desk.names(), ["long", "one", "two"])

    def test_trying_within(self):
        def inner(desk):
            desk.drop("two")
            desk.undo()
            desk.undo()
            return desk.names()

        def failing(desk):
            desk.drop("two")
            raise Boom()

        def outer(desk):
            desk.put("new", ONE)
            ahead = sight(desk)
            told = desk.trying(inner)
            self.assertEqual(sight(desk), ahead)
            with self.assertRaises(Boom):
                desk.trying(failing)
            self.assertEqual(sight(desk), ahead)
            desk.undo()
            desk.undo()
            return told, desk.names()

        ahead = sight(self.desk)
        self.assertEqual(self.desk.trying(outer), (["long", "one", "two", "wide"], ["long", "one", "two"]))
        self.assertEqual(sight(self.desk), ahead)

    def test_a_copy_of_what_was_tried(self):
        """What the function was told stays as it was told."""
        told = self.desk.trying(lambda desk: (desk.exchange("one", "s", NEGATED), desk.program("one")))[1]
        self.assertEqual(told, with_class(ONE, "s", NEGATED))
        self.assertEqual(self.desk.program("one"), ONE)


class Equality(Checked):
    def test_whatever_the_order_and_the_history(self):
        desk = Desk()
        for name, program in (("wide", WIDE), ("x", ONE), ("long", LONG), ("one", TWO), ("two", TWO)):
            desk.put(name, program)
        self.assertNotEqual(desk, self.desk)
        desk.drop("x")
        self.assertNotEqual(desk, self.desk)
        desk.drop("one")
        desk.put("one", exchanged(ONE, "s", NEGATED))
        self.assertNotEqual(desk, self.desk)
        desk.exchange("one", "s", SWITCH)
        self.assertEqual(desk, self.desk)
        self.assertTrue(desk == self.desk)
        self.assertFalse(desk != self.desk)
        desk.undo()
        self.assertNotEqual(desk, self.desk)

    def test_programs_whose_keys_stand_in_another_order(self):
        one, other = Desk(), Desk()
        classes = {"b": OTHER, "a": SWITCH}
        one.put("p", Program(classes, ()))
        other.put("p", Program(dict(reversed(classes.items())), ()))
        self.assertEqual(one, other)

    def test_names_and_programs(self):
        one, other = Desk(), Desk()
        one.put("a", TWO)
        self.assertNotEqual(one, other)
        other.put("b", TWO)
        self.assertNotEqual(one, other)
        other.drop("b")
        other.put("a", ONE)
        self.assertNotEqual(one, other)

    def test_other_values(self):
        for value in ODD_VALUES + [TWO, "desk", object()]:
            self.assertIs(self.desk == value, False)
            self.assertIs(Desk() == value, False)
            self.assertIs(self.desk != value, True)

    def test_desks_that_were_tried(self):
        desk = Desk()
        desk.trying(lambda tried: tried.put("a", TWO))
        self.assertEqual(desk, Desk())


class Long(unittest.TestCase):
    def test_many_deeds(self):
        desk = Desk()
        with limit_of_calls(60):
            for _ in range(400):
                desk.put("a", TWO)
                desk.drop("a")
            for _ in range(800):
                desk.undo()
        self.assertRaises(NothingDone, desk.undo)

    def test_trying_far_down(self):
        def tried(desk, left):
            desk.put("abcdefgh"[:left + 1], TWO)
            if left:
                desk.trying(lambda inner: tried(inner, left - 1))
            return desk.names()

        desk = Desk()
        self.assertEqual(desk.trying(lambda inner: tried(inner, 7)), ["abcdefgh"])
        self.assertEqual(desk.names(), [])
        for kind in ("tuple", "list", "dict"):
            with self.assertRaises(BadName):
                desk.put(deep(kind), TWO)
            with self.assertRaises(BadProgram):
                desk.put("a", deep(kind))


if __name__ == "__main__":
    unittest.main()
