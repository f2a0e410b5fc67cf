"""[30]: what can ever come of a thing of a plain class."""

import copy
import unittest

import naive
from counters import doubling, moves_of_doubling, nested, plain_counter
from plainmaker import METHODS, PlainMaker
from shorthand import (ME, NONE, ask, attempt, body, call, cls, cond, deep, do, f, keep, last, let, method, n, ret, same,
                       say, throw, w)
from standsfor.errors import BadEvent, BadName, BadNumber, BadWords, NotPlain, TooMany
from standsfor.merging import come_to
from standsfor.plain import words_of
from standsfor.plays import played
from standsfor.reach import ever, never_fails, shown
from standsfor.tables import table
from standsfor.texts import event_text
from test_general import ODD_VALUES, limit_of_calls

A = w("a")
B = w("b")
NO_METHOD = ("throws", w("nomethod"))


def marks(methods, fields=None):
    return [cls(methods, fields, mark=mark) for mark in ("open", "closed")]


class Ever(unittest.TestCase):
    def check(self, one, words, event, fewest, **more):
        row = ever(one, words, event, **more)
        if fewest is None:
            self.assertIsNone(row)
            return
        self.assertIsInstance(row, list)
        self.assertEqual(len(row), fewest, row)
        self.assertEqual(played(one, words, row)[-1], event)
        self.assertEqual(ever(one, tuple(words)[::-1], event, **more) is None, False)

    def test_one_move(self):
        one = {"m": method("p q", do(call(n("p"), n("q"))), ret(n("q"))), "k": method("", throw(A))}
        for made in marks(one):
            self.check(made, ["a"], ("calls", 0, ("other", 1), NONE), 1)
            self.check(made, ["a"], ("calls", 0, A, NONE), 1)
            self.check(made, ["a"], ("calls", 0, NONE, NONE), 1)
            self.check(made, ["a"], ("throws", A), 1)
            self.check(made, ["a"], ("throws", w("nofunc")), 1)
            self.check(made, ["a"], ("gives", ("other", 1)), 2)
            self.check(made, ["a"], ("gives", A), 2)
            self.check(made, ["a"], ("throws", ("other", 2)), 2)

    def test_what_never_comes(self):
        one = {"m": method("p q", do(call(n("p"), n("q"))), ret(n("q"))), "k": method("", throw(A))}
        for made in marks(one):
            for event in (("gives", ME), ("gives", ("other", 0)), ("gives", ("other", 2)), ("throws", ME),
                          ("throws", ("other", 0)), ("calls", 1, NONE, NONE), ("calls", 0, NONE, A),
                          ("calls", 0, ("other", 0), ME), ("calls", 999999, A, A), ("throws", w("badword")),
                          ("asks", "m", A, A), ("asks", "zz", NONE, NONE), ("gives", w("more")),
                          ("gives", ("other", 999999))):
                self.check(made, ["a"], event, None)

    def test_words_beyond_those_of_the_class(self):
        one = cls({"m": method("p", ret(n("p")))})
        for words in ([], ["more"], ["x", "more", "y"], ("more", "none")):
            self.check(one, words, ("gives", w("more")), 1 if "more" in words else None)
        put = cls({"m": method("p", keep("x", n("p"))), "get": method("", ret(f("x")))}, {"x": ("a", "b")})
        self.check(put, ["a", "b", "c"], ("gives", w("c")), None)
        self.check(put, ["a", "b", "c"], ("gives", B), 2)
        self.check(put, ["c", "b", "a"], ("throws", w("badword")), 1)
        seen = cls({"m": method("p", cond(same(n("p"), w("nofunc")), (ret(A),)))})
        self.check(seen, ["a", "nofunc"], ("gives", A), 1)

    def test_methods_that_the_class_does_not_have(self):
        names = ("a", "b", "c", "d", "e")
        for many in range(6):
            for made in marks({name: method("") for name in names[:many]}):
                self.check(made, [], NO_METHOD, 1)
                self.check(made, ["nomethod"], NO_METHOD, 1)
        asking = {"m": method("", attempt((do(ask(ME, "zz")),), "e", (ret(n("e")),)))}
        opened, closed = marks(asking)
        self.check(closed, [], ("gives", w("nomethod")), 1)
        self.check(opened, [], ("gives", w("nomethod")), None)
        self.check(opened, ["nomethod"], ("gives", w("nomethod")), 2)

    def test_open_and_closed(self):
        asking = {"m": method("p", do(ask(ME, "k", n("p"))), ret(A)), "k": method("p", ret(call(n("p"))))}
        opened, closed = marks(asking)
        self.check(opened, ["a"], ("asks", "k", ("other", 0), NONE), 1)
        self.check(closed, ["a"], ("asks", "k", ("other", 0), NONE), None)
        self.check(opened, ["a"], ("gives", A), 2)
        self.check(closed, ["a"], ("gives", ("other", 2)), 2)

    def test_many_moves(self):
        for mark in ("open", "closed"):
            for full in (1, 3):
                self.check(doubling(1, full, "a", mark), list("abcd"), ("gives", A), moves_of_doubling(full))
            for full in (1, 20, 63):
                self.check(plain_counter(3, full, "b", mark), list("abcd"), ("gives", B), full + 1)
                self.check(nested(full, "b", mark), list("abcd"), ("gives", B), full + 1)

    def test_bounds_at_the_fewest_moves(self):
        one = doubling(2, 9, "b")
        fewest = moves_of_doubling(9)
        for most in (fewest, 2000, 100000):
            self.check(one, list("abcd"), ("gives", B), fewest, most=most)
        for most in (fewest - 1, 16):
            with self.assertRaises(TooMany) as caught:
                ever(one, list("abcd"), ("gives", B), most=most)
            self.assertEqual(caught.exception.most, most)
            self.check(one, list("abcd"), ("gives", w("c")), None, most=most)
        with self.assertRaises(TooMany) as caught:
            ever(doubling(2, 10, "b"), list("abcd"), ("gives", B))
        self.assertEqual(caught.exception.most, 2000)
        with limit_of_calls(80):
            self.check(one, list("abcd"), ("gives", B), fewest)

    def test_chance(self):
        seen = {}
        for seed in range(14000, 14070):
            maker = PlainMaker(seed, size=3, calls=2)
            one = maker.cls()
            words = words_of(one) + maker.pick(([], ["more"]))
            for event in self.events(maker, one, words):
                try:
                    row = ever(one, words, event, most=60)
                except TooMany:
                    continue
                fewest = None if row is None else len(row)
                with self.subTest((one, words, event)):
                    if row is not None:
                        self.assertEqual(played(one, words, row)[-1], event)
                        self.assertEqual(naive.fewest_to(one, words, event, min(fewest, 3)),
                                         fewest if fewest < 4 else None)
                    else:
                        self.assertIsNone(naive.fewest_to(one, words, event, 2))
                seen[fewest] = seen.get(fewest, 0) + 1
        self.assertGreater(min(seen[fewest] for fewest in (None, 1, 2, 3)), 4, seen)

    def events(self, maker, one, words):
        """Events that came in a play, and some others."""
        moves = []
        waits = 0
        found = []
        for _ in range(6):
            moves.append(maker.move(words, waits))
            event = played(one, words, moves)[-1]
            waits += (moves[-1][0] == "ask") - (event[0] in ("gives", "throws"))
            found.append(event)
        values = [("word", maker.pick(words or ["a"])), NONE, ME, ("other", maker.chance.randrange(4))]
        found.append((maker.pick(("gives", "throws")), maker.pick(values)))
        found.append(("calls", maker.chance.randrange(3), maker.pick(values), maker.pick(values)))
        found.append(("asks", maker.pick(METHODS), maker.pick(values), maker.pick(values)))
        return found


class Shown(unittest.TestCase):
    def check(self, one, name, *texts):
        self.assertEqual(shown(one, name), sorted(texts))
        self.assertIs(never_fails(one, name), not [text for text in texts if text.startswith("throws")])

    def test_gives_and_throws(self):
        one = cls({"m": method("p", cond(same(n("p"), A), (throw(B),), ())), "k": method("", ret(ME)), "j": method("")})
        self.check(one, "m", "gives none", "throws 'b")
        self.check(one, "k", "gives me")
        self.check(one, "j", "gives none")

    def test_words_of_the_class_alone(self):
        for one in marks({"m": method("p q", ret(n("q")))}, {"x": ("b", "a")}):
            self.check(one, "m", "gives 'a", "gives 'b", "gives none", "gives other 1")

    def test_calls_and_what_comes_behind(self):
        for one in marks({"m": method("p", let("r", call(n("p"), A)), ret(n("r")))}):
            self.check(one, "m", "calls 0 'a none", "gives 'a", "gives none", "gives other 2", "throws 'a", "throws 'nofunc",
                       "throws none", "throws other 2")

    def test_ascending_by_the_texts(self):
        one = cls({"m": method("p q", do(call(n("q"), n("p"))), ret(n("p")))})
        told = shown(one, "m")
        self.assertEqual(told, ["calls 1 none none", "calls 1 other 0 none", "gives none", "gives other 0",
                                "throws 'nofunc", "throws none", "throws other 2"])

    def test_at_its_own_depth_alone(self):
        """While m waits, others are asked: their events are none of m's."""
        one = {"m": method("p", attempt((do(call(n("p"))),), "e", ())), "k": method("", throw(A))}
        for made in marks(one):
            self.check(made, "m", "calls 0 none none", "gives none")
            self.assertIs(never_fails(made, "m"), True)
            self.check(made, "k", "throws 'a")

    def test_what_others_have_changed(self):
        one = {"m": method("p", do(call(n("p"))), ret(f("x"))), "put": method("", keep("x", B))}
        for made in marks(one, {"x": ("a", "b", "c")}):
            self.assertEqual([text for text in shown(made, "m") if text.startswith("gives")], ["gives 'a", "gives 'b"])
        held = {"m": method("p", keep("x", B), last((do(call(n("p"))),), (keep("x", A),))), "get": method("", ret(f("x")))}
        for made in marks(held, {"x": ("a", "b", "c")}):
            self.check(made, "get", "gives 'a", "gives 'b")

    def test_asks_of_itself(self):
        asking = {"m": method("p", ret(ask(ME, "k", n("p")))), "k": method("p", cond(same(n("p"), A), (throw(B),)))}
        opened, closed = marks(asking)
        self.check(closed, "m", "gives none", "throws 'b")
        self.check(opened, "m", "asks k 'a none", "asks k 'b none", "asks k none none", "asks k other 0 none",
                   "gives 'a", "gives 'b", "gives none", "gives other 2", "throws 'a", "throws 'b", "throws none",
                   "throws other 2")
        lacking = {"m": method("", do(ask(ME, "zz")))}
        opened, closed = marks(lacking)
        self.check(closed, "m", "throws 'nomethod")
        self.check(opened, "m", "asks zz none none", "gives none", "throws none", "throws other 2")

    def test_calls_within_what_is_done_within(self):
        asking = {"m": method("p", attempt((do(ask(ME, "k", n("p"))),), "e", (ret(n("e")),))),
                  "k": method("p", do(call(n("p"), A)))}
        opened, closed = marks(asking)
        self.check(closed, "m", "calls 0 'a none", "gives none", "gives 'a", "gives 'nofunc", "gives other 2")
        self.check(closed, "k", "calls 0 'a none", "gives none", "throws 'a", "throws 'nofunc", "throws none",
                   "throws other 2")

    def test_bounds(self):
        one = cls({"m": method("p q", do(call(n("p"))), do(call(n("q")))), "k": method("")})
        lone = cls({name: method("p", keep(name, n("p"))) for name in "xyz"}, {name: ("a", "b") for name in "xyz"})
        for made, least in ((one, 4), (lone, 8), (cls({"k": method("")}), 1)):
            levels, waits = table(made, made)
            self.assertEqual(least, max(len(waits), sum(len(pairs) for _, pairs in levels)))
            for name in made[3]:
                for function in (shown, never_fails):
                    function(made, name, most=least)
                    if least > 1:
                        with self.assertRaises(TooMany) as caught:
                            function(made, name, most=least - 1)
                        self.assertEqual(caught.exception.most, least - 1)
            if least > 1:
                for event in (NO_METHOD, ("gives", ME), ("gives", NONE)):
                    ever(made, words_of(made), event, most=least)
                    with self.assertRaises(TooMany):
                        ever(made, words_of(made), event, most=least - 1)

    def test_most_of_ever_counts_with_its_words(self):
        """Each word more is one more value that a frame can keep."""
        one = cls({"m": method("p q", do(call(n("p"))))})
        for many, least in ((0, 3), (1, 4), (5, 8)):
            words = ["a", "b", "c", "d", "e"][:many]
            self.assertEqual(len(ever(one, words, ("gives", NONE), most=least)), 2)
            with self.assertRaises(TooMany) as caught:
                ever(one, words, ("gives", NONE), most=least - 1)
            self.assertEqual(caught.exception.most, least - 1)
            with self.assertRaises(TooMany):
                ever(one, words, ("gives", ME), most=least - 1)
            with self.assertRaises(TooMany):
                ever(one, words, NO_METHOD, most=least - 1)

    def test_chance(self):
        fails = {True: 0, False: 0}
        for seed in range(15000, 15090):
            maker = PlainMaker(seed, size=3, calls=2)
            one = maker.cls()
            try:
                come_to(one, most=40)
            except TooMany:
                continue
            for name in one[3]:
                with self.subTest((one, name)):
                    found = naive.events_of(one, name)
                    self.assertEqual(shown(one, name, most=40), sorted(event_text(event) for event in found))
                    told = never_fails(one, name, most=40)
                    self.assertIs(told, "throws" not in {event[0] for event in found})
                    fails[told] += 1
        self.assertGreater(min(fails.values()), 10, fails)


class Wrong(unittest.TestCase):
    PLAIN = cls({"m": method("p", keep("x", n("p")))}, {"x": ("a", "b")})
    MANY = cls({"m": method("p", *[let(name, call(n("p"))) for name in "abcdefgh"])})
    EVENT = ("gives", NONE)
    WRONG = [None, True, 0, "box", (), [], {}, deep("tuple"), deep("list"), deep("dict"), cls({}, {}, "top"), body(),
             cls({"m": method("", say("a"))}), (None, "open", {}), cls({"m": method("", do(ask(ME, "m")))})]

    def raises(self, error, attribute, value, function, *args, **more):
        with self.assertRaises(error) as caught:
            function(*args, **more)
        self.assertEqual(getattr(caught.exception, attribute), value)
        self.assertIs(type(getattr(caught.exception, attribute)), type(value))

    def test_classes(self):
        for wrong in self.WRONG:
            self.raises(NotPlain, "cls", wrong, ever, wrong, None, None, most=0)
            for function in (shown, never_fails):
                self.raises(NotPlain, "cls", wrong, function, wrong, None, most=0)

    def test_words(self):
        wrong = [["a"], ["b"], [], ["a", "b", "a"], ["a", "b", "C"], ["a", "b", ""], ["a", "b", 5], ["a", "b", None],
                 {"a": 1, "b": 2}, "ab", ("a", "b", "abcdefghi"), [["a"], "a", "b"], ("a", "b", ("c",)), None]
        for words in wrong + ODD_VALUES:
            self.raises(BadWords, "words", words, ever, self.PLAIN, words, None, most=0)
        for words in (["a", "b"], ("b", "a"), ["c", "b", "a"], ("none", "a", "b", "me")):
            self.assertEqual(len(ever(self.PLAIN, words, self.EVENT)), 1)

    def test_events(self):
        wrong = [("gives",), ("gives", A, A), ("calls", 0, A), ("asks", "m", A), ("calls", -1, A, A),
                 ("calls", 1000000, A, A), ("calls", True, A, A), ("calls", "0", A, A), ("asks", "M", A, A),
                 ["gives", A], ("gives", ["word", "a"]), ("gives", ("other", -1)), ("gives", ("other", 1000000)),
                 ("gives", ("other", False)), ("gives", ("able",)), ("gives", ("word", "A")), ("takes", A)]
        for event in wrong + ODD_VALUES:
            self.raises(BadEvent, "event", event, ever, self.PLAIN, ["a", "b"], event, most=0)
        for event in (("gives", ("other", 999999)), ("calls", 999999, A, A), ("asks", "zz", w("other"), A)):
            self.assertIsNone(ever(self.PLAIN, ["a", "b"], event))

    def test_names(self):
        for name in ODD_VALUES + ["k", "x", "p", ("m",), ["m"]]:
            for function in (shown, never_fails):
                self.raises(BadName, "name", name, function, self.PLAIN, name, most=0)

    def test_numbers(self):
        for most in ODD_VALUES + [-1, 100001, 10 ** 30, "5", (5,)]:
            if most != 1 or isinstance(most, bool):
                self.raises(BadNumber, "number", most, ever, self.MANY, [], self.EVENT, most=most)
                self.raises(BadNumber, "number", most, ever, self.MANY, [], NO_METHOD, most=most)
                for function in (shown, never_fails):
                    self.raises(BadNumber, "number", most, function, self.MANY, "m", most=most)
        self.raises(TooMany, "most", 500, ever, self.MANY, [], self.EVENT, most=500)
        for function in (shown, never_fails):
            self.raises(TooMany, "most", 500, function, self.MANY, "m", most=500)
            with self.assertRaises(TypeError):
                function(self.PLAIN, "m", 2000)
        with self.assertRaises(TypeError):
            ever(self.PLAIN, ["a", "b"], self.EVENT, 2000)

    def test_arguments_stay_and_lists_are_new(self):
        words, one = ["b", "a"], copy.deepcopy(self.PLAIN)
        row = ever(one, words, self.EVENT)
        told = shown(one, "m")
        self.assertEqual((words, one), (["b", "a"], self.PLAIN))
        held = list(row), list(told)
        row.clear()
        told.clear()
        self.assertEqual((ever(one, words, self.EVENT), shown(one, "m")), held)


if __name__ == "__main__":
    unittest.main()
