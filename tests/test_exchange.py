"""[25] and [26]: classes of programs that stand for one another."""

import copy
import unittest

from counters import doubling, moves_of_doubling, plain_counter
from plainmaker import PlainMaker
from rows import Row, printed
from shorthand import (ME, NONE, YES, ask, attempt, body, call, cls, cond, deep, do, f, fn, keep, last, let, loop,
                       method, n, new, parent, put, ret, same, say, show, throw, w)
from standsfor.aparts import is_apart
from standsfor.errors import BadMark, BadName, BadNumber, NotAlike, NotPlain, TooMany
from standsfor.exchange import alike_names, exchanged, fewer_classes, needless_methods
from standsfor.plain import words_of
from standsfor.plays import Play
from standsfor.programs import Program, with_class
from standsfor.runs import run
from standsfor.tables import alike
from test_general import ODD_VALUES, limit_of_calls

A = w("a")
B = w("b")
SWITCH = cls({"turn": method("", cond(same(f("x"), A), (keep("x", B),), (keep("x", A),)), ret(f("x")))},
             {"x": ("a", "b")})
NEGATED = cls({"turn": method("", cond(same(f("no"), B), (keep("no", A),), (keep("no", B),)),
                              cond(same(f("no"), A), (ret(B),), (ret(A),)))}, {"no": ("b", "a")})
OTHER = cls({"turn": method("", ret(B))})
NOT_PLAIN = cls({"turn": method("", say("b"))})
MANY = cls({"m": method("p", *[let(name, call(n("p"))) for name in "abcdefgh"])})


def closed(one):
    return (one[0], "closed", *one[2:])


class Raising(unittest.TestCase):
    def raises(self, error, attribute, value, function, *args, **more):
        with self.assertRaises(error) as caught:
            function(*args, **more)
        self.assertEqual(getattr(caught.exception, attribute), value)
        self.assertIs(type(getattr(caught.exception, attribute)), type(value))
        return caught.exception


class Exchanged(Raising):
    def setUp(self):
        turns = (let("t", new("s")), let("r", ask(n("t"), "turn")), show(n("r")), let("r", ask(n("t"), "turn")),
                 show(n("r")), let("h", new("heir")), let("r", ask(n("h"), "turn")), show(n("r")))
        heir = cls({"turn": method("", let("r", parent("turn")), ret(n("r")))}, {"x": ("c",)}, above="s")
        self.program = Program({"s": SWITCH, "heir": heir, "odd": NOT_PLAIN, "many": MANY, "shut": closed(SWITCH)},
                               turns)

    def test_alike_classes(self):
        made = exchanged(self.program, "s", NEGATED)
        self.assertEqual(made, with_class(self.program, "s", NEGATED))
        self.assertEqual(run(made), run(self.program))
        self.assertEqual(run(made)[0], ["b", "a", "b"])
        self.assertEqual(exchanged(made, "s", SWITCH), self.program)
        self.assertEqual(exchanged(self.program, "shut", closed(NEGATED)).classes["shut"], closed(NEGATED))
        self.assertEqual(exchanged(self.program, "s", SWITCH), self.program)

    def test_the_program_stays(self):
        ahead, other = copy.deepcopy(self.program), copy.deepcopy(NEGATED)
        made = exchanged(self.program, "s", NEGATED)
        for wrong in (OTHER, NOT_PLAIN):
            with self.assertRaises(ValueError):
                exchanged(self.program, "s", wrong)
        self.assertEqual((self.program, NEGATED), (ahead, other))
        self.assertIsInstance(made, Program)
        handed = copy.deepcopy(NEGATED)
        made = exchanged(self.program, "s", handed)
        handed[2]["more"] = ("a",)
        self.assertEqual(made.classes["s"], NEGATED)

    def test_not_alike(self):
        for one, other in ((SWITCH, OTHER), (closed(SWITCH), closed(OTHER))):
            program = Program({"s": one}, ())
            with self.assertRaises(NotAlike) as caught:
                exchanged(program, "s", other)
            self.assertIs(is_apart(one, other, caught.exception.moves), True)
        opened = cls({"m": method("", do(ask(ME, "k"))), "k": method("")}), cls({"m": method(""), "k": method("")})
        with self.assertRaises(NotAlike):
            exchanged(body(c=opened[0]), "c", opened[1])
        shut = [closed(one) for one in opened]
        self.assertEqual(exchanged(body(c=shut[0]), "c", shut[1]), body(c=shut[1]))

    def test_fewest_moves_above_the_bound(self):
        one, other = doubling(2, 9, "b"), doubling(2, 9, "c")
        fewest = moves_of_doubling(9)
        self.assertEqual(fewest, 1023)
        error = self.raises(TooMany, "most", fewest - 1, exchanged, body(c=one), "c", other, most=fewest - 1)
        self.assertIsInstance(error, TooMany)
        with self.assertRaises(NotAlike) as caught:
            exchanged(body(c=one), "c", other, most=fewest)
        self.assertEqual(len(caught.exception.moves), fewest)
        with self.assertRaises(NotAlike):
            exchanged(body(c=one), "c", other)
        self.raises(TooMany, "most", 2000, exchanged, body(c=doubling(2, 15, "b")), "c", doubling(2, 15, "c"))

    def test_errors_in_their_order(self):
        for name in ODD_VALUES + ["t", "turn", "box", ("s",), ["s"]]:
            self.raises(BadName, "name", name, exchanged, self.program, name, None, most=0)
        for name in ("odd", "heir"):
            there = self.program.classes[name]
            self.raises(NotPlain, "cls", there, exchanged, self.program, name, None, most=0)
            self.raises(NotPlain, "cls", there, exchanged, self.program, name, SWITCH)
        for wrong in ODD_VALUES + [NOT_PLAIN, cls({}, above="s"), self.program]:
            if wrong != (None, "open", {}, {}):
                self.raises(NotPlain, "cls", wrong, exchanged, self.program, "shut", wrong, most=0)
        self.raises(BadMark, "cls", OTHER, exchanged, self.program, "shut", OTHER, most=0)
        self.raises(BadMark, "cls", closed(SWITCH), exchanged, self.program, "s", closed(SWITCH), most="5")
        for most in ODD_VALUES + [-1, 100001]:
            if most != 1 or isinstance(most, bool):
                self.raises(BadNumber, "number", most, exchanged, self.program, "many", MANY, most=most)
                self.raises(BadNumber, "number", most, exchanged, self.program, "many", OTHER, most=most)
        self.raises(TooMany, "most", 500, exchanged, self.program, "many", MANY, most=500)
        unlike = cls({**MANY[3], "k": method("")})
        self.raises(TooMany, "most", 500, exchanged, self.program, "many", unlike, most=500)
        with self.assertRaises(TypeError):
            exchanged(self.program, "s", NEGATED, 2000)

    def test_chance(self):
        """Both programs print the same, where they make the same moves."""
        many = 0
        for seed in range(12000, 12160):
            maker = PlainMaker(seed, size=3, calls=2)
            one = maker.cls()
            other = maker.changed(one)
            words = sorted(set(words_of(one) + words_of(other)))
            play, moves = Play(one, words), []
            for _ in range(8):
                moves.append(maker.move(words, len(play.frames()), sorted(one[3])))
                play.move(moves[-1])
            program = Row(one, moves, ("word",)).program(("kk", "jj", "zz"))
            try:
                made = exchanged(program, "box", other, most=120)
            except (TooMany, NotAlike) as error:
                self.assertTrue(isinstance(error, TooMany) or is_apart(one, other, error.moves))
                continue
            many += 1
            self.assertEqual(printed(made), printed(program))
        self.assertGreater(many, 40)


class AlikeNames(Raising):
    def test_tuples(self):
        program = body(b=SWITCH, a=NEGATED, d=OTHER, c=closed(SWITCH), f=closed(NEGATED), e=SWITCH, g=NOT_PLAIN,
                       h=cls({}, above="a"))
        self.assertEqual(alike_names(program), [("a", "b", "e"), ("c", "f"), ("d",)])
        self.assertEqual(alike_names(body()), [])
        self.assertEqual(alike_names(body(x=NOT_PLAIN)), [])
        self.assertEqual(alike_names(body(x=OTHER)), [("x",)])
        self.assertEqual(alike_names(body(z=SWITCH, y=closed(SWITCH))), [("y",), ("z",)])

    def test_lists_are_new(self):
        program = body(b=SWITCH, a=NEGATED)
        told = alike_names(program)
        self.assertIsInstance(told, list)
        told.clear()
        self.assertEqual(alike_names(program), [("a", "b")])

    def test_as_alike_tells(self):
        for seed in range(13000, 13012):
            maker = PlainMaker(seed, mark="open", size=3, calls=1)
            one = maker.cls()
            made = {"q": one}
            for name in "sdfgk":
                made[name] = maker.changed(maker.pick(made.values()))
            made["shut"] = closed(one)
            try:
                told = alike_names(Program(made, ()), most=150)
            except TooMany:
                continue
            self.assertEqual(sorted(name for names in told for name in names), sorted(made))
            self.assertEqual(told, sorted(tuple(sorted(names)) for names in told))
            number = {name: at for at, names in enumerate(told) for name in names}
            for name in made:
                for other in made:
                    if made[name][1] == made[other][1]:
                        self.assertIs(alike(made[name], made[other], most=150), number[name] == number[other])
                    else:
                        self.assertNotEqual(number[name], number[other])

    def test_too_many_for_any_two_of_one_mark(self):
        for function in (alike_names, fewer_classes):
            self.raises(TooMany, "most", 500, function, body(a=MANY, b=OTHER, c=MANY), most=500)
            self.raises(TooMany, "most", 500, function, body(a=MANY, c=MANY), most=500)
            function(body(a=MANY), most=500)
            function(body(a=MANY, b=closed(MANY), c=NOT_PLAIN), most=500)
            function(body(a=MANY, b=OTHER), most=500)
            # A class that is told apart by its first event is far smaller than it is with itself.
            self.raises(TooMany, "most", 2, function, body(a=OTHER, b=plain_counter(1, 3), c=plain_counter(1, 3)),
                        most=2)

    def test_also_where_others_have_told_it(self):
        """Of three alike classes, the last two are looked at, too."""
        one = cls({"m": method("", throw(w("nomethod")))})
        program = body(a=cls(), b=one, c=one)
        self.assertEqual(alike_names(program, most=1), [("a", "b", "c")])
        lists = cls({}, {"x": ("a", "b")})
        wide = cls({"m": method("p", do(call(n("p"), ME)), do(call(n("p"))))}, {})
        self.assertEqual(alike_names(body(a=lists, b=wide), most=1), [("a",), ("b",)])
        self.raises(TooMany, "most", 1, alike_names, body(a=lists, b=wide, c=wide), most=1)
        self.assertEqual(alike_names(body(a=lists, b=wide, c=wide), most=2), [("a",), ("b", "c")])

    def test_numbers(self):
        for function in (alike_names, fewer_classes):
            for most in ODD_VALUES + [-1, 100001, "5"]:
                if most != 1 or isinstance(most, bool):
                    for program in (body(), body(a=MANY, b=MANY)):
                        self.raises(BadNumber, "number", most, function, program, most=most)
            for most in (1, 100000):
                function(body(), most=most)
            with self.assertRaises(TypeError):
                function(body(), 2000)


class FewerClasses(Raising):
    def test_new_things_and_parents(self):
        heir = cls({"turn": method("", let("r", parent("turn")), ret(n("r")))}, above="b")
        program = body(let("t", new("c")), let("r", ask(n("t"), "turn")), show(n("r")), let("h", new("heir")),
                       let("r", ask(n("h"), "turn")), show(n("r")), a=OTHER, b=SWITCH, c=NEGATED, heir=heir)
        self.assertEqual(alike_names(program), [("a",), ("b", "c")])
        made = fewer_classes(program)
        self.assertEqual(made, body(let("t", new("b")), *program.body[1:], a=OTHER, b=SWITCH, heir=heir))
        self.assertEqual(run(made), run(program))
        self.assertEqual(fewer_classes(made), made)
        turned = body(*program.body, a=OTHER, c=SWITCH, b=NEGATED, heir=("c", *heir[1:]))
        made = fewer_classes(turned)
        self.assertEqual(made.classes, {"a": OTHER, "b": NEGATED, "heir": heir})
        self.assertEqual(made.body[0], let("t", new("b")))
        self.assertEqual(run(made), run(turned))

    def test_every_place_of_a_program(self):
        def block(name):
            """New things at every place where one may stand, and words that only look like such."""
            made = new(name)
            test = ("both", ("not", same(made, made)), ("either", same(NONE, made), same(made, made)))
            inner = fn("new z", ret(call(fn("", loop(test, say("z"))), made)), show(made))
            return (let("new", made), put("new", made), do(ask(made, "z", made, made)), do(call(made, made, inner, ME)),
                    cond(test, (throw(made),), (let("z", w("z")), let("x", n("z")))),
                    attempt((do(made),), "z", (loop(test, do(inner)),)), last((keep("z", made),), (ret(made),)),
                    do(parent("z", made, inner)), let("z", fn("x new z", do(fn("z new", ret(made))))),
                    do(ask(n("new"), "new", w("new"), f("z"))), show(made), ret(inner))

        def program(name, **more):
            methods = {"z": method("new z", *block(name)), "new": method("z", *block(name)[::-1])}
            heir = cls(methods, {"z": ("z", "new")}, above=name)
            out = fn("new z", do(call(fn("", ret(new(name))), new(name))), let("z", new("new")))
            return Program({"c": OTHER, "heir": heir, "new": cls(methods, {"z": ("z",)}, above="heir"), **more},
                           (let("z", out), cond(same(new(name), NONE), (show(new(name)),)), do(call(n("z"), new(name)))))

        given = program("z", z=OTHER, x=OTHER)
        self.assertEqual(fewer_classes(given), program("c"))
        self.assertEqual(fewer_classes(fewer_classes(given)), program("c"))
        self.assertEqual(given, program("z", z=OTHER, x=OTHER))
        self.assertEqual(fewer_classes(program("c", z=SWITCH)), program("c", z=SWITCH))

    def test_many_tuples(self):
        program = body(let("p", new("b")), let("q", new("d")), let("r", new("f")), let("s", new("h")), a=SWITCH,
                       b=NEGATED, c=OTHER, d=OTHER, e=closed(OTHER), f=closed(OTHER), g=closed(SWITCH),
                       h=closed(NEGATED))
        self.assertEqual(fewer_classes(program),
                         body(let("p", new("a")), let("q", new("c")), let("r", new("e")), let("s", new("g")),
                              a=SWITCH, c=OTHER, e=closed(OTHER), g=closed(SWITCH)))

    def test_deep_blocks(self):
        block = (do(new("b")),)
        for at in range(6):
            block = (do(call(fn("", *block), new("b"))),) if at % 2 else (cond(YES, (), block),)
        program = body(*block, a=OTHER, b=OTHER)
        with limit_of_calls(70):
            made = fewer_classes(program)
        self.assertNotIn("('new', 'b')", repr(made.body))
        self.assertEqual(repr(made.body), repr(program.body).replace("('new', 'b')", "('new', 'a')"))

    def test_the_program_stays(self):
        program = body(let("t", new("b")), a=SWITCH, b=NEGATED)
        ahead = copy.deepcopy(program)
        fewer_classes(program)
        alike_names(program)
        needless_methods(program, "a")
        self.assertEqual(program, ahead)


class NeedlessMethods(Raising):
    METHODS = {name: method("") for name in ("e", "d", "c", "b", "a")}

    def told(self, *statements, **classes):
        return needless_methods(body(*statements, c=cls(self.METHODS), **classes), "c")

    def test_what_nothing_names(self):
        self.assertEqual(self.told(), ["a", "b", "c", "d", "e"])
        self.assertEqual(self.told(let("t", new("c")), do(ask(n("t"), "b")), ret_ask("d")), ["a", "c", "e"])
        self.assertEqual(needless_methods(body(c=cls()), "c"), [])

    def test_asks_in_functions_and_in_methods(self):
        inner = fn("", do(fn("", attempt((), "e", (last((), (ret(ask(n("t"), "a")),)),)))))
        self.assertEqual(self.told(let("x", inner)), ["b", "c", "d", "e"])
        self.assertEqual(self.told(do(call(NONE, NONE, inner))), ["b", "c", "d", "e"])
        self.assertEqual(self.told(cond(same(NONE, inner), ())), ["b", "c", "d", "e"])
        other = cls({"x": method("", loop(YES, let("y", ask(ME, "a", inner))), throw(ask(NONE, "e")))})
        self.assertEqual(self.told(other=other), ["b", "c", "d"])

    def test_its_own_asks_and_parents_calls(self):
        own = needless_methods(body(c=cls({"a": method("", do(ask(ME, "b"))), "b": method("")})), "c")
        self.assertEqual(own, ["a"])
        heir = cls({"x": method("", do(fn("", ret(parent("d")), keep("f", parent("b"))))),
                    "y": method("", put("x", parent("e")))}, {"f": ("a",)}, above="c")
        self.assertEqual(self.told(heir=heir), ["a", "c"])
        self.assertEqual(needless_methods(body(c=cls(self.METHODS), heir=heir), "heir"), ["x", "y"])

    def test_names_that_are_no_methods(self):
        self.assertEqual(self.told(let("a", w("b")), put("a", n("c")), do(call(n("d"), w("e"))), say("a"),
                                   attempt((), "e", ()), let("z", fn("a b c", ret(n("a")))), do(new("c"))),
                         ["a", "b", "c", "d", "e"])
        field = cls({"m": method("", keep("a", f("b")))}, {"a": ("c",), "b": ("d",)}, above="e")
        self.assertEqual(self.told(m=field, e=cls()), ["a", "b", "c", "d", "e"])
        self.assertEqual(self.told(let("x", fn("ask parent e")), do(call(NONE, NONE, w("a")))),
                         ["a", "b", "c", "d", "e"])

    def test_leaving_them_out_changes_nothing(self):
        program = Program({"c": cls({"a": method("", say("a"), do(ask(ME, "b"))), "b": method("", say("b")),
                                     "d": method("", say("d"))})}, (let("t", new("c")), do(ask(n("t"), "a"))))
        self.assertEqual(needless_methods(program, "c"), ["d"])
        methods = {name: made for name, made in program.classes["c"][3].items() if name != "d"}
        self.assertEqual(run(with_class(program, "c", cls(methods))), run(program))

    def test_names(self):
        for name in ODD_VALUES + ["t", "a", ("c",), ["c"]]:
            self.raises(BadName, "name", name, needless_methods, body(c=cls(self.METHODS)), name)

    def test_no_deep_calls(self):
        block = (do(ask(NONE, "a")),)
        for at in range(6):
            block = (do(call(fn("", *block), NONE)),) if at % 2 else (cond(YES, (), block),)
        program = body(*block, c=cls(self.METHODS))
        with limit_of_calls(50):
            self.assertEqual(needless_methods(program, "c"), ["b", "c", "d", "e"])


def ret_ask(name):
    """A function that asks for a method; the thing may stand anywhere."""
    return let("x", fn("", ret(ask(NONE, name))))


class Deep(unittest.TestCase):
    def test_odd_values_are_told(self):
        for kind in ("tuple", "list", "dict"):
            with self.assertRaises(NotPlain):
                exchanged(body(c=OTHER), "c", deep(kind))


if __name__ == "__main__":
    unittest.main()
