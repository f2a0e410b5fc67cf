"""[15] to [18]: plays, their moves and events, and the frames that wait."""

import copy
import inspect
import unittest

from shorthand import (ME, NONE, ask, attempt, body, call, cls, cond, deep, do, f, keep, last, let, method, n, put, ret,
                       same, say, throw, w)
from standsfor.errors import BadMove, BadWords, NothingDone, NotPlain
from standsfor.plain import unplain
from standsfor.plays import Play, played
from standsfor.standings import standings
from test_general import limit_of_calls

ABLE = ("able",)
UNABLE = ("unable",)
A = w("a")
B = w("b")


def asks(name, one=NONE, other=NONE):
    return ("ask", name, one, other)


def give(value=NONE):
    return ("give", value)


def toss(value=NONE):
    return ("throw", value)


def open_and_closed(methods, fields=None):
    return [cls(methods, fields, mark=mark) for mark in ("open", "closed")]


class Case(unittest.TestCase):
    def events(self, made, expected, words="ab"):
        """Makes the moves, and checks the event of each; expected is a list of tuples (move, event)."""
        play = Play(made, list(words))
        for move, event in expected:
            self.assertEqual(play.move(move), event, (move, len(play)))
        self.assertEqual(play.events(), [event for _, event in expected])
        self.assertEqual(played(made, tuple(words), [move for move, _ in expected]), play.events())
        return play

    def both(self, methods, expected, fields=None):
        for made in open_and_closed(methods, fields):
            self.events(made, expected)


class Values(Case):
    def test_what_comes_in_is_shown_by_its_number(self):
        methods = {"one": method("p q", ret(n("p"))), "two": method("p q", throw(n("q"))), "me": method("", ret(ME))}
        self.both(methods, [
            (asks("one", A, B), ("gives", A)), (asks("one", ABLE, B), ("gives", ("other", 0))),
            (asks("one", UNABLE, ABLE), ("gives", ("other", 0))), (asks("one", NONE, ABLE), ("gives", NONE)),
            (asks("two", ABLE, ABLE), ("throws", ("other", 1))), (asks("two", ABLE, UNABLE), ("throws", ("other", 1))),
            (asks("two", ABLE, B), ("throws", B)), (asks("two", ABLE, NONE), ("throws", NONE)),
            (asks("me", ABLE, ABLE), ("gives", ME)),
        ])

    def test_words_and_none_are_numbered_too(self):
        methods = {"m": method("p", let("r", call(n("p"))), let("s", call(n("p"))), ret(n("s")))}
        self.both(methods, [
            (asks("m", ABLE, A), ("calls", 0, NONE, NONE)), (give(A), ("calls", 0, NONE, NONE)),
            (give(ABLE), ("gives", ("other", 3))),
            (asks("m", ABLE), ("calls", 0, NONE, NONE)), (give(NONE), ("calls", 0, NONE, NONE)),
            (toss(UNABLE), ("throws", ("other", 3))),
        ])

    def test_fewer_params_than_things(self):
        methods = {"m": method("p", let("r", call(n("p"))), ret(n("r"))),
                   "k": method("", attempt((throw(ask(ME, "m", NONE)),), "e", (ret(n("e")),)))}
        self.both({"m": methods["m"]}, [(asks("m", ABLE, ABLE), ("calls", 0, NONE, NONE)),
                                        (give(ABLE), ("gives", ("other", 2)))])
        self.events(cls(methods), [(asks("k", ABLE, ABLE), ("asks", "m", NONE, NONE)),
                                   (toss(ABLE), ("gives", ("other", 2)))])

    def test_a_thing_that_was_not_handed_is_none(self):
        self.both({"m": method("p q", ret(n("q")))}, [(asks("m", ABLE), ("gives", NONE))])

    def test_words_are_told_apart_within_and_outside_of_the_words(self):
        test = method("p", cond(same(n("p"), A), (ret(B),)), cond(same(A, n("p")), (), (ret(n("p")),)))
        expected = [(asks("m", A), ("gives", B)), (asks("m", B), ("gives", B)),
                    (asks("m", UNABLE), ("gives", ("other", 0))),
                    (asks("m", NONE), ("gives", NONE)), (asks("m", ABLE), ("gives", ("other", 0)))]
        self.both({"m": test}, expected)
        made = cls({"m": method("p", ret(n("p")))})
        self.events(made, [(asks("m", w("more")), ("gives", w("more")))], ["more"])

    def test_words_that_the_language_raises_are_shown(self):
        methods = {"m": method("p", attempt((do(call(n("p"))),), "e", (ret(n("e")),))),
                   "k": method("p", attempt((keep("x", n("p")),), "e", (ret(n("e")),)))}
        self.both(methods, [(asks("m", A), ("gives", w("nofunc"))), (asks("k", NONE), ("gives", w("badword")))],
                  {"x": ("a",)})

    def test_a_word_raised_within_is_not_the_unable_one_from_outside(self):
        methods = {"m": method("p", attempt((do(call(n("p"))),), "e", (cond(same(n("e"), w("nofunc")), (ret(B),)),)))}
        for made in open_and_closed(methods):
            self.events(made, [(asks("m", UNABLE), ("gives", B))], ["nofunc", "b"])


class Moves(Case):
    def test_gives_and_throws(self):
        methods = {"end": method(""), "ret": method("", ret(A), ret(B)), "raise": method("", throw(A), ret(B)),
                   "more": method("p q")}
        self.both(methods, [(asks("end"), ("gives", NONE)), (asks("ret"), ("gives", A)), (asks("raise"), ("throws", A)),
                            (asks("more", ABLE, ABLE), ("gives", NONE)), (asks("none"), ("throws", w("nomethod")))])

    def test_calls(self):
        methods = {"m": method("p q", do(call(n("q"))), do(call(n("q"), n("p"))), do(call(n("p"), ME, A)))}
        self.both(methods, [
            (asks("m", ABLE, ABLE), ("calls", 1, NONE, NONE)), (give(), ("calls", 1, ("other", 0), NONE)),
            (give(), ("calls", 0, ME, A)), (give(ABLE), ("gives", NONE)),
            (asks("m", UNABLE, ABLE), ("calls", 1, NONE, NONE)), (give(), ("calls", 1, ("other", 0), NONE)),
            (give(), ("throws", w("nofunc"))),
        ])

    def test_calls_of_what_is_not_able(self):
        for value in (A, NONE, UNABLE):
            self.both({"m": method("p", do(call(n("p"))))}, [(asks("m", value), ("throws", w("nofunc")))])
        self.both({"m": method("", let("x", ME), do(call(n("x"))))}, [(asks("m"), ("throws", w("nofunc")))])

    def test_things_of_a_call_have_their_values_ahead_of_it(self):
        methods = {"m": method("p", let("r", A), put("r", call(n("p"), n("r"), f("x"))), keep("x", B),
                               put("r", call(n("p"), n("r"), f("x"))))}
        self.both(methods, [(asks("m", ABLE), ("calls", 0, A, A)), (give(B), ("calls", 0, B, B))], {"x": ("a", "b")})

    def test_asks_of_an_open_class(self):
        methods = {"m": method("p", let("r", ask(ME, "k", n("p"))), do(ask(ME, "no", n("r"), ME)), ret(n("r"))),
                   "k": method("p", ret(B))}
        self.events(cls(methods), [
            (asks("m", ABLE), ("asks", "k", ("other", 0), NONE)), (give(UNABLE), ("asks", "no", ("other", 2), ME)),
            (asks("k"), ("gives", B)), (toss(A), ("throws", A)), (asks("m", A), ("asks", "k", A, NONE)),
            (toss(), ("throws", NONE)),
        ])

    def test_asks_of_a_closed_class_are_done_within(self):
        methods = {"m": method("p", let("r", ask(ME, "k", n("p"), A)), ret(n("r"))),
                   "k": method("q r", cond(same(n("r"), A), (ret(call(n("q"), n("q"))),))),
                   "none": method("", do(ask(ME, "no"))),
                   "late": method("", attempt((do(ask(ME, "none")),), "e", (ret(n("e")),)))}
        self.events(cls(methods, mark="closed"), [
            (asks("m", ABLE), ("calls", 0, ("other", 0), NONE)), (give(ABLE), ("gives", ("other", 2))),
            (asks("m", A), ("throws", w("nofunc"))), (asks("none"), ("throws", w("nomethod"))),
            (asks("late"), ("gives", w("nomethod"))),
        ])
        methods = {"few": method("", ret(ask(ME, "echo", B))), "echo": method("p q", ret(n("q"))),
                   "many": method("", ret(ask(ME, "end", B, A))), "end": method("", ret(A))}
        self.events(cls(methods, mark="closed"),
                    [(asks("few", ABLE, ABLE), ("gives", NONE)), (asks("many"), ("gives", A))])

    def test_asks_while_a_frame_waits(self):
        methods = {"m": method("p", let("r", call(n("p"))), keep("x", n("r"))), "get": method("", ret(f("x"))),
                   "set": method("p", keep("x", n("p")))}
        for made in open_and_closed(methods, {"x": ("a", "b")}):
            play = self.events(made, [
                (asks("m", ABLE), ("calls", 0, NONE, NONE)), (asks("get"), ("gives", A)),
                (asks("m", ABLE), ("calls", 0, NONE, NONE)), (asks("set", B), ("gives", NONE)),
                (give(A), ("gives", NONE)), (asks("get"), ("gives", A)), (asks("set", B), ("gives", NONE)),
                (give(UNABLE), ("throws", w("badword"))), (asks("get"), ("gives", B)),
            ])
            self.assertEqual((play.standing(), play.frames()), (("b",), []))

    def test_events_belong_to_the_method_asked_last(self):
        methods = {"m": method("p", ret(call(n("p")))), "k": method("p", throw(call(n("p"))))}
        self.both(methods, [
            (asks("m", ABLE), ("calls", 0, NONE, NONE)), (asks("k", ABLE), ("calls", 0, NONE, NONE)),
            (asks("m", ABLE), ("calls", 0, NONE, NONE)), (give(A), ("gives", A)), (give(B), ("throws", B)),
            (give(ABLE), ("gives", ("other", 2))),
        ])

    def test_raises_and_catches(self):
        methods = {"m": method("p", attempt((do(call(n("p"))), ret(A)), "e", (do(call(n("p"), n("e"))),)), ret(B))}
        self.both(methods, [
            (asks("m", ABLE), ("calls", 0, NONE, NONE)), (give(), ("gives", A)),
            (asks("m", ABLE), ("calls", 0, NONE, NONE)), (toss(UNABLE), ("calls", 0, ("other", 2), NONE)),
            (give(), ("gives", B)),
            (asks("m", ABLE), ("calls", 0, NONE, NONE)), (toss(), ("calls", 0, NONE, NONE)), (toss(A), ("throws", A)),
            (asks("m"), ("throws", w("nofunc"))),
        ])

    def test_lasts(self):
        methods = {"m": method("p q", last((ret(call(n("p"))),), (do(call(n("q"))),)), ret(B))}
        self.both(methods, [
            (asks("m", ABLE, ABLE), ("calls", 0, NONE, NONE)), (give(A), ("calls", 1, NONE, NONE)),
            (give(B), ("gives", A)),
            (asks("m", ABLE, ABLE), ("calls", 0, NONE, NONE)), (toss(A), ("calls", 1, NONE, NONE)),
            (give(B), ("throws", A)),
            (asks("m", ABLE, ABLE), ("calls", 0, NONE, NONE)), (toss(A), ("calls", 1, NONE, NONE)),
            (toss(B), ("throws", B)),
            (asks("m", ABLE), ("calls", 0, NONE, NONE)), (give(A), ("throws", w("nofunc"))),
        ])
        over = {"m": method("", last((throw(A),), (ret(B),))), "k": method("", last((ret(A),), (throw(B),))),
                "j": method("", last((throw(A),), ())), "i": method("", last((), (ret(B),)), ret(A))}
        self.both(over, [(asks("m"), ("gives", B)), (asks("k"), ("throws", B)), (asks("j"), ("throws", A)),
                         (asks("i"), ("gives", B))])

    def test_empty_blocks(self):
        methods = {"m": method("", last((), ()), attempt((), "e", ()), cond(same(A, B), (ret(A),)),
                               cond(same(A, A), ()), attempt((throw(A),), "e", ()), last((last((), ()),), ()),
                               ret(n("e")))}
        self.both(methods, [(asks("m"), ("gives", A))])

    def test_tests(self):
        shapes = {"not": ("not", same(n("p"), A)), "both": ("both", same(n("p"), A), same(f("x"), A)),
                  "either": ("either", same(n("p"), A), same(f("x"), B)),
                  "deep": ("both", ("not", same(n("p"), B)), ("either", same(n("p"), A), same(f("x"), A)))}
        methods = {name: method("p", cond(test, (ret(w("y")),), (ret(w("z")),))) for name, test in shapes.items()}
        methods["set"] = method("p", keep("x", n("p")))
        yes, no = ("gives", w("y")), ("gives", w("z"))
        for made in open_and_closed(methods, {"x": ("a", "b")}):
            self.events(made, [
                (asks("not", A), no), (asks("not", B), yes), (asks("not", NONE), yes), (asks("both", A), yes),
                (asks("both", B), no), (asks("either", A), yes), (asks("either", B), no), (asks("deep", A), yes),
                (asks("deep", B), no), (asks("deep"), yes), (asks("set", B), ("gives", NONE)), (asks("both", A), no),
                (asks("either", B), yes), (asks("either", ABLE), yes), (asks("deep"), no), (asks("deep", A), yes),
            ], ["a", "b", "y", "z"])

    def test_keep(self):
        methods = {"m": method("p", keep("y", n("p")), ret(f("y")))}
        for made in open_and_closed(methods, {"x": ("c",), "y": ("a", "b")}):
            play = self.events(made, [
                (asks("m", B), ("gives", B)), (asks("m", w("c")), ("throws", w("badword"))),
                (asks("m"), ("throws", w("badword"))), (asks("m", ABLE), ("throws", w("badword"))),
                (asks("m", UNABLE), ("throws", w("badword"))),
            ], "abc")
            self.assertEqual(play.standing(), ("c", "b"))
        methods = {"m": method("", keep("y", ME)), "k": method("", keep("y", w("d")))}
        for made in open_and_closed(methods, {"y": ("a", "b")}):
            self.events(made, [(asks("m"), ("throws", w("badword"))), (asks("k"), ("throws", w("badword")))], "abd")


class Frames(Case):
    def test_one_of_an_open_class(self):
        methods = {"m": method("q p", let("r", A), cond(same(n("r"), A), (do(NONE), let("s", call(n("p"), ME)))))}
        for made in open_and_closed(methods):
            play = Play(made, "a b".split())
            play.move(asks("m", UNABLE, ABLE))
            names = (("p", ("able", 1)), ("q", ("unable", 0)), ("r", A))
            self.assertEqual(play.frames(), [((("m", (1, 0, 1), names, ()),), 2)])

    def test_many(self):
        methods = {"m": method("p", let("p", call(n("p"))), let("q", call(n("p"))), let("r", call(n("q"))))}
        for made in open_and_closed(methods):
            play = Play(made, [])
            play.move(asks("m", ABLE))
            self.assertEqual(play.frames(), [((("m", (0,), (("p", ("able", 0)),), ()),), 2)])
            play.move(give(ABLE))
            self.assertEqual(play.frames(), [((("m", (1,), (("p", ("able", 2)),), ()),), 3)])
            play.move(give(ABLE))
            names = (("p", ("able", 2)), ("q", ("able", 3)))
            self.assertEqual(play.frames(), [((("m", (2,), names, ()),), 4)])
            play.move(toss())
            self.assertEqual(play.frames(), [])

    def test_many_with_throws(self):
        methods = {"m": method("p", attempt((do(call(n("p"))),), "e", (do(call(n("e"))),)))}
        for made in open_and_closed(methods):
            play = Play(made, [])
            play.move(asks("m", ABLE, ABLE))
            play.move(toss(ABLE))
            names = (("e", ("able", 2)), ("p", ("able", 0)))
            self.assertEqual(play.frames(), [((("m", (0, 1, 0), names, ()),), 3)])

    def test_values_in_names(self):
        methods = {"m": method("p q", let("a", ME), let("b", NONE), let("c", f("x")), let("d", w("z")),
                               attempt((do(call(n("b"))),), "e", (do(call(n("q"))),)))}
        for made in open_and_closed(methods, {"x": ("y",)}):
            play = Play(made, ["y", "z", "a"])
            play.move(asks("m", A, ABLE))
            names = (("a", ME), ("b", NONE), ("c", w("y")), ("d", w("z")), ("e", w("nofunc")), ("p", A),
                     ("q", ("able", 1)))
            self.assertEqual(play.frames(), [((("m", (4, 1, 0), names, ()),), 2)])

    def test_a_param_without_a_thing_has_none(self):
        play = Play(cls({"m": method("q p", do(ask(ME, "k")))}), [])
        play.move(asks("m"))
        self.assertEqual(play.frames(), [((("m", (0,), (("p", NONE), ("q", NONE)), ()),), 2)])

    def test_names_that_have_a_value_there(self):
        methods = {"m": method("p", cond(same(n("p"), A), (let("r", A),), (let("s", B),)), do(ask(ME, "k")),
                               let("t", NONE))}
        play = Play(cls(methods), ["a", "b"])
        play.move(asks("m", A))
        play.move(asks("m", B))
        self.assertEqual(play.frames(), [((("m", (1,), (("p", A), ("r", A)), ()),), 2),
                                         ((("m", (1,), (("p", B), ("s", B)), ()),), 2)])

    def test_paths(self):
        wait = do(ask(ME, "k"))
        block = (do(NONE), wait)
        for made, steps in ((cond(same(A, A), block), (0,)), (cond(same(A, B), (), block), (1,)),
                            (attempt(block, "e", ()), (0,)), (attempt((throw(A),), "e", block), (1,)),
                            (last(block, ()), (0,)), (last((), block), (1,))):
            play = Play(cls({"m": method("", do(NONE), do(NONE), made, ret(A))}), ["a", "b"])
            self.assertEqual(play.move(asks("m")), ("asks", "k", NONE, NONE))
            self.assertEqual(play.frames()[0][0][0][1], (2, *steps, 1))
            self.assertEqual(play.move(give()), ("gives", A))
            inner = (cond(same(A, A), (do(NONE), do(NONE), last((), (made,)))),)
            play = Play(cls({"m": method("", attempt((throw(A),), "e", inner), ret(A))}), ["a", "b"])
            play.move(asks("m"))
            self.assertEqual(play.frames()[0][0][0][1], (0, 1, 0, 0, 2, 1, 0, *steps, 1))
            self.assertEqual(play.move(give()), ("gives", A))

    def test_every_statement_that_waits(self):
        for statement in (let("r", ask(ME, "k")), put("p", ask(ME, "k")), keep("x", ask(ME, "k")), do(ask(ME, "k")),
                          ret(ask(ME, "k")), throw(ask(ME, "k"))):
            play = Play(cls({"m": method("p", do(NONE), statement)}, {"x": ("a", "b")}), ["a", "b"])
            play.move(asks("m"))
            self.assertEqual(play.frames(), [((("m", (1,), (("p", NONE),), ()),), 2)])

    def test_what_goes_on_behind_a_last(self):
        wait = do(ask(ME, "k"))
        shapes = [((), ("on",), ("gives", B)), ((do(NONE),), ("on",), ("gives", B)),
                  ((ret(n("p")),), ("return", ("able", 0)), ("gives", ("other", 0))),
                  ((ret(NONE),), ("return", NONE), ("gives", NONE)), ((throw(ME),), ("raise", ME), ("throws", ME)),
                  ((throw(A),), ("raise", A), ("throws", A)),
                  ((ret(call(n("q"))),), ("raise", w("nofunc")), ("throws", w("nofunc")))]
        for first, kept, behind in shapes:
            play = Play(cls({"m": method("p q", last(first, (wait,)), ret(B))}), ["a", "b"])
            play.move(asks("m", ABLE, UNABLE))
            names = (("p", ("able", 0)), ("q", ("unable", 1)))
            self.assertEqual(play.frames(), [((("m", (0, 1, 0), names, (kept,)),), 2)])
            self.assertEqual(play.move(give(A)), behind)
            play.move(asks("m", ABLE, UNABLE))
            self.assertEqual(play.move(toss(A)), ("throws", A))

    def test_lasts_in_lasts(self):
        wait = do(ask(ME, "k"))
        inner = last((throw(A),), (last((), (attempt((wait,), "e", (wait,)),)), wait))
        play = Play(cls({"m": method("", last((ret(B),), (inner,)))}), ["a", "b"])
        play.move(asks("m"))
        self.assertEqual(play.frames(),
                         [((("m", (0, 1, 0, 1, 0, 1, 0, 0, 0), (), (("return", B), ("raise", A), ("on",))),), 2)])
        play.move(toss(ABLE))
        names = (("e", ("able", 2)),)
        kept = (("return", B), ("raise", A), ("on",))
        self.assertEqual(play.frames(), [((("m", (0, 1, 0, 1, 0, 1, 0, 1, 0), names, kept),), 3)])
        play.move(give())
        self.assertEqual(play.frames(), [((("m", (0, 1, 0, 1, 1), names, kept[:2]),), 4)])
        self.assertEqual(play.move(give()), ("throws", A))

    def test_the_first_block_of_a_last_keeps_nothing(self):
        play = Play(cls({"m": method("", last((do(ask(ME, "k")),), ()))}), [])
        play.move(asks("m"))
        self.assertEqual(play.frames(), [((("m", (0, 0, 0), (), ()),), 2)])

    def test_a_raise_out_of_a_second_block_lets_go_of_what_was_kept(self):
        wait = do(ask(ME, "k"))
        methods = {"m": method("", attempt((last((ret(A),), (wait,)),), "e", (wait,)))}
        play = Play(cls(methods), ["a"])
        play.move(asks("m"))
        self.assertEqual(play.frames()[0][0][0][3], (("return", A),))
        play.move(toss())
        self.assertEqual(play.frames(), [((("m", (0, 1, 0), (("e", NONE),), ()),), 3)])

    def test_inner_ones_of_a_closed_class(self):
        methods = {"m": method("p", do(NONE), last((ret(A),), (let("r", ask(ME, "k", n("p"), B)),))),
                   "k": method("a b", cond(same(n("b"), B), (let("s", call(n("a"))), do(ask(ME, "j", n("s")))))),
                   "j": method("x", do(call(n("x"))))}
        play = Play(cls(methods, mark="closed"), ["a", "b"])
        play.move(asks("m", ABLE))
        outer = ("m", (1, 1, 0), (("p", ("able", 0)),), (("return", A),))
        middle = (("a", ("able", 0)), ("b", B))
        self.assertEqual(play.frames(), [((outer, ("k", (0, 0, 0), middle, ())), 2)])
        self.assertEqual(play.move(give(ABLE)), ("calls", 2, NONE, NONE))
        middle += (("s", ("able", 2)),)
        self.assertEqual(play.frames(),
                         [((outer, ("k", (0, 0, 1), middle, ()), ("j", (0,), (("x", ("able", 2)),), ())), 3)])
        self.assertEqual(play.move(give(UNABLE)), ("gives", A))
        play.move(asks("m", ABLE))
        play.move(give(ABLE))
        self.assertEqual(play.move(toss(UNABLE)), ("throws", ("other", 3)))

    def test_numbers_go_on_through_what_is_done_within(self):
        methods = {"m": method("p", do(ask(ME, "k", n("p"))), let("r", call(n("p"))), ret(n("r"))),
                   "k": method("p", do(call(n("p"))), do(call(n("p"))))}
        self.events(cls(methods, mark="closed"), [
            (asks("m", ABLE), ("calls", 0, NONE, NONE)), (give(), ("calls", 0, NONE, NONE)),
            (give(), ("calls", 0, NONE, NONE)), (give(ABLE), ("gives", ("other", 4))),
        ])

    def test_a_raise_within_is_caught_further_out(self):
        methods = {"m": method("p", attempt((do(ask(ME, "k", n("p"))),), "e", (do(call(n("p"), n("e"))),)),
                               ret(n("p"))),
                   "k": method("p", last((throw(call(n("p"))),), (let("z", A), do(call(n("p"), n("z"))))))}
        play = self.events(cls(methods, mark="closed"), [
            (asks("m", ABLE), ("calls", 0, NONE, NONE)), (give(ABLE), ("calls", 0, A, NONE)),
        ])
        inner = ("k", (0, 1, 1), (("p", ("able", 0)), ("z", A)), (("raise", ("able", 2)),))
        self.assertEqual(play.frames(), [((("m", (0, 0, 0), (("p", ("able", 0)),), ()), inner), 3)])
        self.assertEqual(play.move(give()), ("calls", 0, ("other", 2), NONE))
        names = (("e", ("able", 2)), ("p", ("able", 0)))
        self.assertEqual(play.frames(), [((("m", (0, 1, 0), names, ()),), 4)])
        self.assertEqual(play.move(give()), ("gives", ("other", 0)))

    def test_the_names_of_inner_ones_are_their_own(self):
        methods = {"m": method("p", let("r", A), do(ask(ME, "k", n("p"))), ret(n("r"))),
                   "k": method("q", let("r", B), let("p", B), do(call(n("q"))))}
        play = self.events(cls(methods, mark="closed"), [(asks("m", ABLE), ("calls", 0, NONE, NONE))])
        self.assertEqual([inner[2] for inner in play.frames()[0][0]], [
            (("p", ("able", 0)), ("r", A)), (("p", B), ("q", ("able", 0)), ("r", B))])
        self.assertEqual(play.move(give()), ("gives", A))


class Plays(Case):
    def setUp(self):
        self.made = cls({"m": method("p", let("r", call(n("p"))), keep("x", n("r")), ret(f("x")))},
                        {"x": ("a", "b"), "w": ("c",)})
        self.words = ["a", "b", "c", "d"]

    def sight(self, play):
        return (play.standing(), play.frames(), len(play), play.events())

    def test_at_first(self):
        self.assertEqual(self.sight(Play(self.made, self.words)), (("c", "a"), [], 0, []))

    def test_back(self):
        play = Play(self.made, self.words)
        sights = []
        for move in (asks("m", ABLE), asks("m", A), asks("m", ABLE), give(B), asks("no"), give(NONE), asks("m", ABLE),
                     toss(A)):
            sights.append(self.sight(play))
            play.move(move)
        after = self.sight(play)
        self.assertEqual(len(play), 8)
        self.assertIsNone(play.back())
        self.assertEqual(self.sight(play), sights[-1])
        play.move(toss(A))
        self.assertEqual(self.sight(play), after)
        for sight in reversed(sights):
            play.back()
            self.assertEqual(self.sight(play), sight)
        with self.assertRaises(NothingDone):
            play.back()
        self.assertEqual(self.sight(play), sights[0])
        play.move(asks("m", ABLE))
        self.assertEqual(self.sight(play), sights[1])

    def test_moves_taken_back_can_be_made_otherwise(self):
        play = Play(self.made, self.words)
        play.move(asks("m", ABLE))
        ends = [(B, ("gives", B), "b"), (A, ("gives", A), "a"), (w("d"), ("throws", w("badword")), "a")]
        for value, event, standing in ends:
            self.assertEqual(play.move(give(value)), event)
            self.assertEqual(play.standing(), ("c", standing))
            play.back()
            self.assertEqual(play.standing(), ("c", "a"))
            self.assertEqual(len(play.frames()), 1)

    def test_lists_are_new(self):
        play = Play(self.made, self.words)
        play.move(asks("m", ABLE))
        sight = self.sight(play)
        play.frames().append("more")
        play.events().append("more")
        self.assertEqual(self.sight(play), sight)

    def test_copies(self):
        ahead = (copy.deepcopy(self.made), list(self.words))
        play = Play(self.made, self.words)
        moves = [asks("m", ABLE), give(B)]
        played(self.made, self.words, moves)
        self.assertEqual((self.made, self.words, moves), (*ahead, [asks("m", ABLE), give(B)]))
        self.made[2]["x"] = ("z",)
        self.made[3].clear()
        self.words.clear()
        self.assertEqual(play.move(moves[0]), ("calls", 0, NONE, NONE))
        self.assertEqual(play.move(moves[1]), ("gives", B))

    def test_long_plays(self):
        play = Play(self.made, self.words)
        for _ in range(5000):
            play.move(asks("m", ABLE))
        self.assertEqual(len(play.frames()), 5000)
        for _ in range(5000):
            play.move(give(B))
        self.assertEqual((play.frames(), len(play)), ([], 10000))
        for _ in range(10000):
            play.back()
        self.assertEqual(self.sight(play), (("c", "a"), [], 0, []))

    def test_deep_blocks_and_asks_take_no_deep_calls_in_python(self):
        methods = {}
        for name, other in zip("abcde", "bcdef"):
            block = (ret(ask(ME, other, n("p"))) if other != "f" else ret(call(n("p"), A)),)
            for _ in range(3):
                block = (last((throw(A),), (attempt((throw(B),), "e", block),)),)
            methods[name] = method("p", *block)
        for made, expected in ((cls(methods, mark="closed"), ("calls", 0, A, NONE)),
                               (cls(methods), ("asks", "b", ("other", 0), NONE))):
            with limit_of_calls(60):
                self.assertIsNone(unplain(made))
                play = Play(made, ["a", "b"])
                for _ in range(100):
                    self.assertEqual(play.move(asks("a", ABLE)), expected)
                for _ in range(100):
                    self.assertEqual(play.move(give(ABLE)), ("gives", ("other", 2)))

    def test_played(self):
        self.assertEqual(played(self.made, tuple(self.words), ()), [])
        events = [("calls", 0, NONE, NONE), ("gives", B)]
        for moves in ([asks("m", ABLE), give(B)], (asks("m", ABLE), give(B))):
            self.assertEqual(played(self.made, self.words, moves), events)
        told = played(self.made, self.words, [])
        told.append("more")
        self.assertEqual(played(self.made, self.words, []), [])


class Wrong(Case):
    MADE = cls({"m": method("p", do(call(n("p"))))}, {"x": ("a", "b")})
    ODD = [
        None, True, 0, "", "ask", (), [], {}, deep("tuple"), deep("list"), deep("dict"), ("ask",), ("give",),
        ("throw",),
        ("take", NONE), (None, NONE), ((), ()), ("give", NONE, NONE), ["give", NONE], ("give", ["none"]),
        ("give", "none"), ("give", ()), ("give", None), ("give", ("none", "none")), ("give", ("word",)),
        ("give", ("word", "c")), ("give", ("word", "a", "a")), ("give", ("word", ["a"])), ("give", ("word", None)),
        ("give", ("word", "A")), ("give", ("able", 0)), ("give", ("unable", 0)), ("give", ("me",)),
        ("give", ("other", 0)),
        ("give", ["word", "a"]), ("give", {"word": "a"}), ("give", deep("list")), ("give", ("word", deep("tuple"))),
        ("throw", ("name", "a")), (deep("dict"), NONE), ("ask", "m"), ("ask", "m", NONE),
        ("ask", "m", NONE, NONE, NONE),
        ("ask", "M", NONE, NONE), ("ask", "", NONE, NONE), ("ask", None, NONE, NONE), ("ask", ["m"], NONE, NONE),
        ("ask", "toolonger", NONE, NONE), ("ask", "m", ME, NONE), ("ask", "m", NONE, ("word", "c")),
        ("ask", "m", None, NONE), ("ask", "m", (NONE,), NONE), ["ask", "m", NONE, NONE],
        ("ask", "m", NONE, deep("tuple")), ("asks", "m", NONE, NONE),
    ]

    def test_what_is_no_move(self):
        play = Play(self.MADE, ["a", "b"])
        play.move(asks("m", ABLE))
        for odd in self.ODD + [body(), play]:
            with self.subTest(odd), self.assertRaises(BadMove) as caught:
                play.move(odd)
            if not isinstance(odd, Play):
                self.assertEqual(caught.exception.move, odd)
            with self.assertRaises(BadMove):
                Play(self.MADE, ["a", "b"]).move(odd)
            with self.assertRaises(BadMove) as caught:
                played(self.MADE, ["a", "b"], [asks("m", ABLE), odd, "other"])
            if not isinstance(odd, Play):
                self.assertEqual(caught.exception.move, odd)
            self.assertEqual((len(play), len(play.frames()), play.standing()), (1, 1, ("a",)))
        self.assertEqual(play.move(give()), ("gives", NONE))

    def test_gives_and_throws_where_nothing_waits(self):
        play = Play(self.MADE, ["a", "b"])
        for move in (give(), toss(A)):
            with self.assertRaises(BadMove) as caught:
                play.move(move)
            self.assertEqual(caught.exception.move, move)
            play.move(asks("m", A))
            play.move(asks("m", ABLE))
            play.move(move)
            with self.assertRaises(BadMove):
                play.move(move)
        with self.assertRaises(BadMove) as caught:
            played(self.MADE, ["a", "b"], [asks("m", ABLE), give(A), toss(B), "more"])
        self.assertEqual(caught.exception.move, toss(B))

    def test_methods_of_any_name_can_be_asked(self):
        for mark in ("open", "closed"):
            play = Play(cls(mark=mark), [])
            for name in ("m", "none", "abcdefgh"):
                self.assertEqual(play.move(asks(name, ABLE, UNABLE)), ("throws", w("nomethod")))

    def test_words(self):
        for words in (["a", "b"], ("b", "a"), ["c", "a", "b"], ["b", "a", "zzzzzzzz", "none"], list("abcdefghij")):
            self.assertEqual(Play(self.MADE, words).standing(), ("a",))
            self.assertEqual(played(self.MADE, words, []), [])
        for words in (None, True, 2, "ab", (), [], ["a"], ["a", "a", "b"], ["a", "b", "C"], ["a", "b", ""],
                      ["a", "b", None],
                      ["a", "b", ["c"]], {"a": 1, "b": 2}, ["a", "b", True], (["a", "b"],), deep("list"), deep("dict"),
                      ["a", "b", deep("tuple")], ["a", "b", "toolonger"], body()):
            with self.subTest(words), self.assertRaises(BadWords) as caught:
                Play(self.MADE, words)
            self.assertEqual(caught.exception.words, words)
            with self.assertRaises(BadWords) as caught:
                played(self.MADE, words, "no moves")
            self.assertEqual(caught.exception.words, words)
        self.assertEqual(Play(cls(), []).standing(), ())

    def test_classes(self):
        for wrong in (None, (), deep("list"), cls({"m": method("", say("a"))}), cls({}, {}, "top"), body()):
            for function in (lambda: Play(wrong, None), lambda: played(wrong, None, None)):
                with self.assertRaises(NotPlain) as caught:
                    function()
                self.assertEqual(caught.exception.cls, wrong)

    def test_rows_of_moves(self):
        for wrong in (None, True, 3, "ask", {}, {0: asks("m")}, deep("dict"), body()):
            with self.assertRaises(BadMove) as caught:
                played(self.MADE, ["a", "b"], wrong)
            self.assertEqual(caught.exception.move, wrong)

    def test_methods_are_defined_in_the_class(self):
        for name in ("standing", "frames", "move", "back", "__len__", "events"):
            self.assertIn(name, vars(Play))
        self.assertEqual(str(inspect.signature(Play)), "(cls, words)")


class Reached(Case):
    def test_standings_that_a_play_comes_to_are_standings(self):
        made = cls({"m": method("p", keep("x", n("p"))), "k": method("p", keep("y", n("p")))},
                   {"x": ("a", "b"), "y": ("b", "c")})
        play = Play(made, list("abc"))
        seen = {play.standing()}
        for name, word in (("m", "b"), ("k", "c"), ("m", "a"), ("k", "b")):
            play.move(asks(name, w(word)))
            seen.add(play.standing())
        self.assertEqual(seen, set(standings(made)))


if __name__ == "__main__":
    unittest.main()
