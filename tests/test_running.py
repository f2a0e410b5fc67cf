"""[7] to [10]: values, surroundings, right sides and statements."""

import unittest

from shorthand import (ME, NO, NONE, YES, ask, attempt, body, call, cls, cond, do, f, fn, keep, last, let, loop, method,
                       n, new, parent, put, ret, same, say, show, throw, w)
from standsfor.programs import Program
from standsfor.runs import run

ODD = "q"


class Running(unittest.TestCase):
    def prints(self, block, lines, end=("done",), **classes):
        self.assertEqual(run(Program(classes, tuple(block))), (lines, end))

    def raises(self, block, text, lines=(), **classes):
        self.prints(block, list(lines), ("raised", text), **classes)


class Values(Running):
    KINDS = [w("a"), w("none"), NONE, fn(""), new("c")]

    def test_what_print_has(self):
        self.prints([show(kind) for kind in self.KINDS], ["a", "none", "none", "function", "thing"], c=cls())
        self.prints([do(ask(new("c"), "m"))], ["thing", "b"],
                    c=cls({"m": method("", show(ME), show(f("x")))}, {"x": ("b", "a")}))

    def test_what_a_raised_value_has(self):
        for kind, text in zip(self.KINDS, ["a", "none", "none", "function", "thing"]):
            self.raises([throw(kind), say("never")], text, c=cls())

    def same(self, one, other, flag, ahead=()):
        block = list(ahead) + [cond(same(one, other), (say("yes"),), (say("no"),))]
        self.prints(block, ["yes" if flag else "no"], c=cls())

    def test_same(self):
        for at, one in enumerate(self.KINDS):
            for behind, other in enumerate(self.KINDS):
                self.same(one, other, at == behind and at < 3)
        self.same(n("x"), n("x"), True, [let("x", fn(""))])
        self.same(n("x"), n("y"), True, [let("x", fn("")), let("y", n("x"))])
        self.same(n("x"), n("y"), False, [let("x", fn("")), let("y", fn(""))])
        self.same(n("x"), n("y"), True, [let("x", new("c")), let("y", n("x"))])
        self.same(n("x"), n("y"), False, [let("x", new("c")), let("y", new("c"))])
        self.same(n("x"), w("b"), True, [let("x", w("b"))])

    def test_a_function_is_made_anew_each_time(self):
        made = [let("f", fn("", ret(fn("")))), let("x", call(n("f"))), let("y", call(n("f")))]
        self.same(n("x"), n("y"), False, made)

    def test_fields_begin_with_their_first_words(self):
        top = cls({"t": method("", show(f("x")), keep("x", w("b")), show(f("x")))}, {"x": ("a", "b")})
        low = cls({"l": method("", show(f("x")), show(f("y")))}, {"x": ("c", "d"), "y": ("e",)}, "top")
        block = [let("o", new("low")), do(ask(n("o"), "t")), do(ask(n("o"), "l")), do(ask(new("low"), "t"))]
        self.prints(block, ["a", "b", "c", "e", "a", "b"], top=top, low=low)


class Surrounds(Running):
    def test_a_name_without_a_value(self):
        for statement in (show(n("x")), let("y", n("x")), do(n("x")), throw(n("x")), do(call(n("x"))),
                          do(ask(n("x"), "m")), do(call(fn(""), n("x"))), cond(same(n("x"), NONE), ()),
                          cond(same(NONE, n("x")), ()), loop(same(n("x"), NONE)), put("x", NONE),
                          loop(("not", same(n("x"), NONE))), cond(("both", YES, same(n("x"), NONE)), ()),
                          cond(("either", same(NONE, n("x")), YES), ())):
            self.raises([statement, say("never")], "noname")

    def test_let_in_the_innermost_set_in_the_nearest(self):
        self.prints([let("x", w("a")), do(call(fn("", let("x", w("b")), show(n("x"))))), show(n("x"))], ["b", "a"])
        self.prints([let("x", w("a")), do(call(fn("", put("x", w("b")), show(n("x"))))), show(n("x"))], ["b", "b"])
        self.prints([let("x", w("a")), do(call(fn("", let("x", w("b")), put("x", w("c")), show(n("x"))))),
                     show(n("x"))], ["c", "a"])
        inner = fn("", put("x", w("c")))
        self.prints([let("x", w("a")), do(call(fn("x", do(call(inner)), show(n("x"))), w("b"))), show(n("x"))],
                    ["c", "a"])

    def test_set_of_a_name_that_none_have(self):
        self.raises([do(call(fn("", let("x", w("a"))))), put("x", w("b"))], "noname")
        self.raises([do(call(fn("", put("x", w("b"))))), let("x", w("a"))], "noname")

    def test_set_does_its_right_side_first(self):
        self.prints([let("f", fn("", let("x", w("a")), ret(w("b")))),
                     attempt((put("x", call(n("f"))),), "e", (show(n("e")),))], ["noname"])
        self.raises([put("x", call(fn("", throw(w("first")))))], "first")

    def test_blocks_have_no_surroundings_of_their_own(self):
        self.prints([cond(YES, (let("x", w("a")),)), show(n("x"))], ["a"])
        self.prints([attempt((let("x", w("a")), throw(w("b"))), "y", (let("z", w("c")),)), show(n("x")), show(n("y")),
                     show(n("z"))], ["a", "b", "c"])
        self.prints([last((let("x", w("a")),), (let("y", n("x")),)), show(n("y"))], ["a"])
        self.prints([let("x", w("a")), loop(same(n("x"), w("a")), let("x", w("b")), let("y", w("c"))), show(n("y"))],
                    ["c"])

    def test_functions_keep_the_surroundings_in_which_they_were_made(self):
        make = let("make", fn("x", ret(fn("", let("y", n("x")), put("x", w("z")), ret(n("y"))))))
        self.prints([make, let("f", call(n("make"), w("a"))), let("g", call(n("make"), w("b"))), let("x", w("c")),
                     let("r", call(n("f"))), show(n("r")), let("r", call(n("g"))), show(n("r")),
                     let("r", call(n("f"))), show(n("r")), show(n("x"))], ["a", "b", "z", "c"])

    def test_surroundings_are_not_those_of_the_caller(self):
        self.raises([let("f", fn("", show(n("x")))), do(call(fn("x", do(call(n("f")))), w("a")))], "noname")

    def test_names_that_come_later(self):
        self.prints([let("f", fn("", show(n("x")))), let("x", w("a")), do(call(n("f")))], ["a"])
        self.prints([let("f", fn("", show(n("x")), let("x", w("b")), show(n("x")))), let("x", w("a")),
                     do(call(n("f")))], ["a", "b"])

    def test_methods_stand_within_those_of_the_body(self):
        c = cls({"m": method("p", show(n("x")), put("x", n("p")), let("y", w("c")), show(n("y")))})
        self.prints([let("x", w("a")), let("y", w("d")), do(ask(new("c"), "m", w("b"))), show(n("x")), show(n("y"))],
                    ["a", "c", "b", "d"], c=c)
        self.raises([do(call(fn("x", do(ask(new("c"), "m"))), w("a")))], "noname", c=c)

    def test_functions_made_in_methods(self):
        c = cls({"m": method("p", ret(fn("", ret(n("p")))))})
        self.prints([let("f", ask(new("c"), "m", w("a"))), let("r", call(n("f"))), show(n("r"))], ["a"], c=c)


class Rights(Running):
    def test_me_and_fields_in_functions(self):
        make = method("", ret(fn("v", keep("x", n("v")), let("g", fn("", ret(f("x")))), let("r", call(n("g"))),
                                 show(n("r")), ret(ME))))
        c = cls({"make": make, "get": method("", ret(f("x")))}, {"x": ("a", "b", "c")})
        block = [let("o", new("c")), let("p", new("c")), let("f", ask(n("o"), "make")), let("me", call(n("f"), w("b"))),
                 cond(same(n("me"), n("o")), (say("itself"),)), let("r", ask(n("o"), "get")), show(n("r")),
                 let("r", ask(n("p"), "get")), show(n("r"))]
        self.prints(block, ["b", "itself", "b", "a"], c=c)

    def test_a_function_of_the_body_called_in_a_method_stays_outside(self):
        c = cls({"m": method("f", let("r", call(n("f"))), show(n("r")))}, {"x": ("a",)})
        self.prints([let("o", new("c")), do(ask(n("o"), "m", fn("", ret(n("o")))))], ["thing"], c=c)

    def test_params(self):
        three = fn("a b c", show(n("a")), show(n("b")), show(n("c")))
        self.prints([do(call(three, w("x"), w("y"), w("z")))], ["x", "y", "z"])
        self.prints([do(call(three, w("x")))], ["x", "none", "none"])
        self.prints([do(call(three))], ["none"] * 3)
        self.prints([do(call(fn("a", show(n("a"))), w("x"), w("y"), w("z")))], ["x"])
        self.prints([do(call(fn("", say("k")), w("x"), w("y"), w("z")))], ["k"])
        c = cls({"m": method("a b", show(n("a")), show(n("b")))})
        self.prints([do(ask(new("c"), "m", w("x"))), do(ask(new("c"), "m", w("x"), w("y"), w("z")))],
                    ["x", "none", "x", "y"], c=c)

    def test_a_param_hides_an_outer_name(self):
        self.prints([let("a", w("out")), do(call(fn("a", show(n("a"))))), show(n("a"))], ["none", "out"])

    def test_values_of_calls(self):
        self.prints([let("r", call(fn("", ret(w("x"))))), show(n("r"))], ["x"])
        self.prints([let("r", call(fn("", say("in")))), show(n("r"))], ["in", "none"])
        self.prints([let("r", call(fn(""))), show(n("r"))], ["none"])
        self.prints([let("r", w("x")), put("r", call(fn(""))), show(n("r"))], ["none"])
        self.prints([let("r", ask(new("c"), "m")), show(n("r")), let("r", ask(new("c"), "k")), show(n("r"))],
                    ["v", "none"], c=cls({"m": method("", ret(w("v"))), "k": method("")}))
        self.raises([throw(call(fn("", ret(w("x")))))], "x")
        self.prints([let("f", fn("", ret(call(fn("", ret(w("x"))))))), let("r", call(n("f"))), show(n("r"))], ["x"])

    def test_nofunc(self):
        for value in (w("a"), NONE, new("c")):
            self.raises([do(call(value))], "nofunc", c=cls())
            self.raises([let("x", value), do(call(n("x"), w("a"), w("b")))], "nofunc", c=cls())

    def test_nomethod(self):
        for value in (w("a"), NONE, fn(""), new("c")):
            self.raises([do(ask(value, "m"))], "nomethod", c=cls({"k": method("")}))

    def test_who_wins(self):
        c = cls({"m": method("", do(ask(n("q"), "m")))})
        self.raises([do(call(n("q"), w("a")))], "noname")
        self.raises([do(call(w("a"), n("q")))], "noname")
        self.raises([do(call(w("a"), w("b"), w("b"), n("q")))], "noname")
        self.raises([do(ask(n("q"), "m", w("a")))], "noname", c=c)
        self.raises([do(ask(w("a"), "m", n("q")))], "noname", c=c)
        self.raises([do(ask(new("c"), "z", n("q")))], "noname", c=c)
        self.raises([put("z", call(w("a")))], "nofunc")
        self.raises([put("z", ask(w("a"), "m"))], "nomethod")
        self.raises([put("z", n("q"))], "noname")
        k = cls({"m": method("", keep("x", n("q"))), "n": method("", keep("x", call(w("a")))),
                 "o": method("", keep("x", ask(ME, "z"))), "p": method("", keep("x", w("c")))}, {"x": ("a",)})
        for name, word in (("m", "noname"), ("n", "nofunc"), ("o", "nomethod"), ("p", "badword")):
            self.raises([do(ask(new("k"), name))], word, k=k)
        low = cls({"m": method("", do(parent("z", n("q"))))}, above="c")
        self.raises([do(ask(new("low"), "m"))], "noname", c=c, low=low)

    def test_the_nearest_method(self):
        top = cls({"m": method("", say("topm"), do(ask(ME, "k"))), "k": method("", say("topk"))})
        mid = cls({"k": method("", say("midk"), do(parent("k")))}, above="top")
        low = cls({"m": method("", say("lowm"), do(parent("m")))}, above="mid", mark="closed")
        every = {"top": top, "mid": mid, "low": low}
        self.prints([do(ask(new("top"), "m"))], ["topm", "topk"], **every)
        self.prints([do(ask(new("mid"), "m"))], ["topm", "midk", "topk"], **every)
        self.prints([do(ask(new("low"), "m"))], ["lowm", "topm", "midk", "topk"], **every)
        self.prints([do(ask(new("low"), "k"))], ["midk", "topk"], **every)

    def test_parent_goes_from_the_class_of_the_text(self):
        # With two classes above, parent in the middle one does not go back to itself.
        top = cls({"m": method("a", show(n("a")), ret(ME))})
        mid = cls({"m": method("a", let("r", parent("m", n("a"))), ret(n("r")))}, above="top")
        low = cls({"m": method("a", let("f", fn("", ret(parent("m", n("a"))))), let("r", call(n("f"))),
                               cond(same(n("r"), ME), (say("me"),), (say("other"),))),
                   "z": method("", do(parent("z")))}, above="mid")
        every = {"top": top, "mid": mid, "low": low}
        self.prints([do(ask(new("low"), "m", w("v")))], ["v", "me"], **every)
        self.raises([do(ask(new("low"), "z"))], "nomethod", **every)

    def test_fields_of_one_name_in_a_chain(self):
        top = cls({"put": method("v", keep("x", n("v"))), "get": method("", show(f("x")))}, {"x": ("a", "b")})
        low = cls({"lput": method("v", keep("x", n("v"))), "lget": method("", show(f("x")), do(parent("get")))},
                  {"x": ("a", "c")}, "top")
        every = {"top": top, "low": low}
        o = let("o", new("low"))
        self.prints([o, do(ask(n("o"), "put", w("b"))), do(ask(n("o"), "lget")), do(ask(n("o"), "lput", w("c"))),
                     do(ask(n("o"), "lget")), do(ask(new("low"), "lget"))], ["a", "b", "c", "b", "a", "a"], **every)
        self.raises([do(ask(new("low"), "put", w("c")))], "badword", **every)
        self.raises([do(ask(new("low"), "lput", w("b")))], "badword", **every)

    def test_a_method_may_be_asked_while_it_waits(self):
        c = cls({"m": method("f", keep("x", w("b")), let("r", call(n("f"))), show(f("x")), ret(n("r"))),
                 "k": method("", show(f("x")), keep("x", w("c")))}, {"x": ("a", "b", "c")})
        self.prints([let("o", new("c")), let("r", ask(n("o"), "m", fn("", do(ask(n("o"), "k")), ret(w("v"))))),
                     show(n("r"))], ["b", "c", "v"], c=c)


class Statements(Running):
    def test_keep(self):
        c = cls({"m": method("v", attempt((keep("x", n("v")), say("kept")), "e", (show(n("e")),)), show(f("x")))},
                {"x": ("a", "b")})
        for value, lines in ((w("b"), ["kept", "b"]), (w("a"), ["kept", "a"]), (w("c"), ["badword", "a"]),
                             (NONE, ["badword", "a"]), (fn(""), ["badword", "a"]), (new("c"), ["badword", "a"])):
            self.prints([do(ask(new("c"), "m", value))], lines, c=c)
        k = cls({"m": method("", keep("x", call(fn("", ret(w("b"))))), show(f("x")))}, {"x": ("a", "b")})
        self.prints([do(ask(new("k"), "m"))], ["b"], k=k)

    def test_keep_is_of_this_thing_alone(self):
        c = cls({"m": method("v", keep("x", n("v"))), "g": method("", show(f("x")))}, {"x": ("a", "b")})
        self.prints([let("o", new("c")), let("p", new("c")), do(ask(n("o"), "m", w("b"))), do(ask(n("o"), "g")),
                     do(ask(n("p"), "g"))], ["b", "a"], c=c)

    def test_do(self):
        self.prints([do(w("a")), do(call(fn("", say("in"), ret(w("b")), say("never")))), do(fn("", say("never")))],
                    ["in"])

    def test_if(self):
        self.prints([cond(YES, (say("a"),), (say("b"),)), cond(NO, (say("a"),), (say("b"),)), cond(YES, ()),
                     cond(NO, ()), say("c")], ["a", "b", "c"])

    def test_tests(self):
        bad = same(n(ODD), NONE)
        for test, lines in ((("not", YES), ["no"]), (("not", NO), ["yes"]), (("both", YES, YES), ["yes"]),
                            (("both", YES, NO), ["no"]), (("both", NO, YES), ["no"]), (("both", NO, NO), ["no"]),
                            (("either", YES, YES), ["yes"]), (("either", YES, NO), ["yes"]),
                            (("either", NO, YES), ["yes"]), (("either", NO, NO), ["no"]),
                            (("both", NO, bad), ["no"]), (("either", YES, bad), ["yes"]),
                            (("not", ("both", same(NONE, w("a")), bad)), ["yes"]),
                            (("not", ("either", YES, bad)), ["no"])):
            self.prints([cond(test, (say("yes"),), (say("no"),))], lines)
        for test in (bad, ("not", bad), ("both", YES, bad), ("either", NO, bad), ("both", bad, NO),
                     ("either", bad, YES)):
            self.raises([cond(test, (say("yes"),), (say("no"),))], "noname")
            self.raises([loop(test, say("yes"))], "noname")

    def test_while(self):
        self.prints([let("x", w("a")), loop(("not", same(n("x"), w("c"))),
                                            cond(same(n("x"), w("a")), (let("x", w("b")),), (let("x", w("c")),)),
                                            show(n("x"))), say("end")], ["b", "c", "end"])
        self.prints([loop(NO, say("never")), say("end")], ["end"])

    def test_leaving_a_while(self):
        self.prints([let("r", call(fn("", loop(YES, ret(w("a")), say("never")), say("never")))), show(n("r"))], ["a"])
        self.prints([attempt((loop(YES, throw(w("a"))), say("never")), "e", (show(n("e")),)), say("end")],
                    ["a", "end"])
        self.prints([let("x", w("a")), loop(same(n("x"), w("a")), attempt((throw(w("b")),), "x", (say("in"),)),
                                            show(n("x")))], ["in", "b"])

    def test_a_name_that_fails_in_the_second_look(self):
        c = cls({"m": method("", ret(f("x")))}, {"x": ("a",)})
        self.raises([let("f", fn("", loop(("either", same(n("y"), n("z")), NO), let("y", w("b")), say("in")))),
                     let("y", w("a")), let("z", w("a")), do(call(n("f"))), put("nope", NONE)], "noname", ["in"], c=c)

    def test_try(self):
        self.prints([attempt((say("a"), throw(w("b")), say("never")), "e", (show(n("e")),)), say("c")],
                    ["a", "b", "c"])
        self.prints([attempt((say("a"),), "e", (say("never"),)), say("c")], ["a", "c"])
        self.raises([attempt((), "e", ()), show(n("e"))], "noname")
        self.raises([attempt((throw(w("a")),), "e", (throw(w("b")),)), say("never")], "b")
        self.prints([attempt((attempt((throw(w("a")),), "e", (throw(n("e")),)),), "g", (show(n("g")),))], ["a"])
        self.prints([attempt((attempt((throw(w("a")),), "e", (show(n("e")),)), say("on")), "g", (say("never"),))],
                    ["a", "on"])
        self.prints([attempt((throw(w("a")),), "e", ()), show(n("e"))], ["a"])

    def test_any_value_may_be_raised(self):
        for value, text in ((w("a"), "a"), (NONE, "none"), (fn(""), "function"), (new("c"), "thing")):
            self.prints([let("v", value), attempt((throw(n("v")),), "e", (show(n("e")),
                         cond(same(n("e"), n("v")), (say("same"),)),))], [text, "same"], c=cls())

    def test_what_the_language_raises_is_caught(self):
        for statement, word in ((show(n("q")), "noname"), (do(call(NONE)), "nofunc"), (do(ask(NONE, "m")), "nomethod")):
            self.prints([attempt((statement,), "e", (cond(same(n("e"), w(word)), (say("yes"),)),))], ["yes"])

    def test_the_caught_name_is_let(self):
        self.prints([let("e", w("out")), do(call(fn("", attempt((throw(w("a")),), "e", (show(n("e")),))))),
                     show(n("e"))], ["a", "out"])

    def test_try_does_not_catch_returns(self):
        self.prints([let("r", call(fn("", attempt((ret(w("a")),), "e", (say("never"),)), say("never")))),
                     show(n("r"))], ["a"])

    def test_raise_in_the_calls_place(self):
        self.prints([let("f", fn("", throw(w("a")))), attempt((let("x", call(n("f"))), say("never")), "e",
                     (show(n("e")),)), attempt((show(n("x")),), "e", (show(n("e")),))], ["a", "noname"])
        self.prints([let("f", fn("", throw(w("a")))), let("g", fn("", do(call(n("f"))), say("never"))),
                     attempt((do(call(n("g"))),), "e", (show(n("e")),)), say("end")], ["a", "end"])

    def returned(self, block, text, lines=()):
        self.prints([let("r", call(fn("", *block))), show(n("r"))], list(lines) + [text])

    def test_last(self):
        self.prints([last((say("a"),), (say("b"),)), say("c")], ["a", "b", "c"])
        self.raises([last((say("a"), throw(w("x"))), (say("b"),)), say("never")], "x", ["a", "b"])
        self.returned([last((ret(w("x")),), (say("b"),)), say("never")], "x", ["b"])
        self.prints([last((), ()), say("c")], ["c"])
        self.raises([last((throw(w("x")),), ()), say("never")], "x")
        self.raises([last((), (throw(w("x")),)), say("never")], "x")

    def test_the_second_one_goes_on_in_the_place_of_the_first(self):
        for first in ((), (ret(w("x")),), (throw(w("x")),)):
            self.returned([last(first, (ret(w("y")),)), say("never")], "y")
            self.raises([do(call(fn("", last(first, (throw(w("y")),)), say("never")))), say("never")], "y")

    def test_try_in_the_second_block_of_a_last(self):
        inside = attempt((throw(w("y")),), "e", (show(n("e")),))
        self.returned([last((ret(w("x")),), (inside,)), say("never")], "x", ["y"])
        self.raises([last((throw(w("x")),), (inside,)), say("never")], "x", ["y"])

    def test_last_in_last(self):
        self.returned([last((last((ret(w("x")),), (say("a"),)), say("never")), (say("b"),))], "x", ["a", "b"])
        self.returned([last((ret(w("x")),), (last((ret(w("y")),), (say("a"),)), say("never")))], "y", ["a"])
        self.raises([do(call(fn("", last((throw(w("x")),), (last((ret(w("y")),), (throw(w("z")),)), say("never"))))))],
                    "z")
        self.returned([last((ret(w("x")),), (last((), (say("a"),)), say("b")))], "x", ["a", "b"])
        self.raises([last((last((throw(w("x")),), (throw(w("y")),)),), (say("b"),))], "y", ["b"])

    def test_try_and_last_in_all_their_meetings(self):
        self.prints([attempt((last((throw(w("x")),), (say("a"),)), say("never")), "e", (show(n("e")),))], ["a", "x"])
        self.prints([attempt((last((throw(w("x")),), (throw(w("y")),)),), "e", (show(n("e")),))], ["y"])
        self.prints([last((attempt((throw(w("x")),), "e", (show(n("e")),)), say("a")), (say("b"),))], ["x", "a", "b"])
        self.raises([last((attempt((throw(w("x")),), "e", (throw(w("y")),)),), (say("b"),))], "y", ["b"])
        self.returned([attempt((last((ret(w("x")),), (throw(w("y")),)),), "e", (show(n("e")),)), ret(w("z"))],
                      "z", ["y"])
        self.returned([last((attempt((throw(w("a")),), "e", (ret(n("e")),)),), (say("b"),))], "a", ["b"])
        self.returned([last((attempt((ret(w("a")),), "e", ()),), (attempt((throw(w("c")),), "e", (ret(n("e")),)),))],
                      "c")

    def test_a_last_around_a_call_in_its_blocks(self):
        self.prints([let("f", fn("", throw(w("x")))), let("g", fn("", ret(w("y")))),
                     attempt((last((do(call(n("f"))),), (let("r", call(n("g"))), show(n("r")))),), "e",
                             (show(n("e")),))], ["y", "x"])
        self.prints([let("g", fn("", last((ret(w("x")),), (do(call(fn("", ret(w("z"))))), say("b"))))),
                     let("r", call(n("g"))), show(n("r"))], ["b", "x"])

    def test_a_while_in_a_last(self):
        self.returned([let("x", w("a")), loop(YES, last((ret(w("v")),), (say("b"),)))], "v", ["b"])
        self.returned([last((ret(w("v")),), (let("x", w("a")), loop(same(n("x"), w("a")), let("x", w("b")),
                       say("in"))))], "v", ["in"])

    def test_lines_ahead_of_a_raise(self):
        self.raises([say("a"), throw(w("b")), say("c")], "b", ["a"])


class Together(unittest.TestCase):
    def test_empty_program(self):
        self.assertEqual(run(body()), ([], ("done",)))


if __name__ == "__main__":
    unittest.main()
