"""[13] and [14]: plain classes, their words and their methods."""

import copy
import unittest

from shorthand import (ME, NO, NONE, YES, ask, attempt, body, call, cls, cond, deep, do, f, fn, keep, last, let, loop,
                       method, n, new, parent, put, ret, same, say, show, throw, w)
from standsfor.errors import NotPlain
from standsfor.plain import is_plain, methods_of, unplain, words_of
from standsfor.sessions import Session

FIELDS = {"x": ("a", "b")}


def of(*block, params="p q", fields=None, **more):
    """What unplain tells of a class with a method of this block, and more methods."""
    methods = {"m": method(params, *block), **more}
    return unplain(cls(methods, FIELDS if fields is None else fields))


class Case(unittest.TestCase):
    def plain(self, *block, **more):
        self.assertIsNone(of(*block, **more), block)

    def unplain(self, word, *block, **more):
        self.assertEqual(of(*block, **more), word, block)


class Classes(Case):
    NO_CLASSES = [
        None, True, 0, "", "box", (), [], {}, ("open",), (None, "open", {}), (None, "open", {}, {}, {}),
        [None, "open", {}, {}], (None, "shut", {}, {}), (None, True, {}, {}), (None, ["open"], {}, {}),
        ("Box", "open", {}, {}), (1, "open", {}, {}), ((), "open", {}, {}), (None, "open", [], {}),
        (None, "open", {}, []), (None, "open", {}, None), (None, "open", {"x": ()}, {}),
        (None, "open", {"x": ["a"]}, {}), (None, "open", {"x": ("a", "a")}, {}), (None, "open", {"x": "a"}, {}),
        (None, "open", {"x": tuple("abcde")}, {}), (None, "open", {"X": ("a",)}, {}), (None, "open", {1: ("a",)}, {}),
        (None, "open", {name: ("a",) for name in "abcd"}, {}), (None, "open", {}, {"M": ((), ())}),
        (None, "open", {}, {"m": ()}), (None, "open", {}, {"m": [(), ()]}), (None, "open", {}, {"m": ((), (), ())}),
        (None, "open", {}, {"m": ([], ())}), (None, "open", {}, {"m": ((), [])}), (None, "open", {}, {"m": ("p", ())}),
        (None, "open", {}, {"m": (("p", "p"), ())}), (None, "open", {}, {"m": (("p", "q", "r", "s"), ())}),
        (None, "open", {}, {name: ((), ()) for name in "abcdef"}),
        deep("tuple"), deep("list"), deep("dict"), (None, "open", deep("dict"), {}), (None, "open", {}, deep("dict")),
        (None, "open", {}, {"m": ((), deep("tuple"))}), (deep("list"), "open", {}, {}),
    ]

    def test_no_classes(self):
        for thing in self.NO_CLASSES + [body(), Session(body()), words_of]:
            with self.subTest(thing):
                self.assertEqual(unplain(thing), "class")
                self.assertIs(is_plain(thing), False)

    def test_blocks_that_make_it_no_class(self):
        seven = (ret(NONE),)
        for _ in range(7):
            seven = (cond(same(n("p"), w("a")), seven),)
        self.plain(*seven)
        for block in (("do",),), (do(("other",)),), (keep("y", NONE),), (ret(f("y")),), (do(parent("m")),), \
                (ret(NONE),) * 13, (cond(NONE, ()),), (("let", "X", NONE),), (do(fn("", ("do",))),), \
                (do(fn("", keep("y", NONE))),), (do(fn("a b c d")),), (do(new("Box")),), (ret(w("A")),), \
                (do(call(n("p"), NONE, NONE, NONE, NONE)),), (cond(("not", ("not", ("not", YES))), ()),), \
                (cond(same(n("p"), w("a")), seven),), (let("x", fn("", *seven)), cond(YES, (do(fn("", *seven)),))):
            self.unplain("class", *block)

    def test_the_least_and_the_largest(self):
        for mark in ("open", "closed"):
            self.assertIsNone(unplain((None, mark, {}, {})))
            many = {name: method("p q", *(ret(w("a")),) * 12) for name in "abcde"}
            self.assertIsNone(unplain((None, mark, {name: tuple("abcd") for name in "xyz"}, many)))
            self.assertIs(is_plain((None, mark, {}, {})), True)

    def test_new_things_of_any_class_are_no_matter_of_the_class(self):
        self.unplain("right", do(new("whatever")))


class Words(Case):
    """Each word that unplain has but "class", by something that nothing else is wrong with."""

    WRONG = {
        "parent": {},
        "params": {"k": method("a b c")},
        "statement": {"k": method("a", say("a"))},
        "right": {"k": method("a", do(new("box")))},
        "test": {"k": method("a", cond(YES, ()))},
        "ring": {"k": method("", do(ask(ME, "k")))},
        "asks": {"k": method("", *[do(ask(ME, name)) for name in ("qa", "qb", "qc", "qd", "qe", "qf")])},
        "words": {"k": method("", *[do(w(word)) for word in "abcdef"])},
        "name": {"k": method("", do(n("a")))},
    }
    # Here a ring needs methods of other names than the other words.
    ORDER = list(WRONG)

    def made(self, words):
        methods = {}
        for at, word in enumerate(words):
            for name, made in self.WRONG[word].items():
                block = made[1]
                if word == "ring":
                    block = (do(ask(ME, "k" + "abcdefghi"[at])),)
                methods[name + "abcdefghi"[at]] = (made[0], block)
        return cls(methods, {}, "top" if "parent" in words else None)

    def test_each(self):
        for word in self.ORDER:
            self.assertEqual(unplain(self.made([word])), word)
            self.assertIs(is_plain(self.made([word])), False)

    def test_which_one_goes_first(self):
        for at, first in enumerate(self.ORDER):
            for second in self.ORDER[at + 1:]:
                for third in self.ORDER[at + 1:]:
                    for order in ([first, second, third], [third, second, first], [second, first, third]):
                        self.assertEqual(unplain(self.made(order)), first, order)

    def test_all_of_them(self):
        rows = [self.ORDER[at:at + 5] for at in range(5)]
        for row in rows:
            self.assertEqual(unplain(self.made(row)), row[0])
            self.assertEqual(unplain(self.made(row[::-1])), row[0])


class Parts(Case):
    def test_params(self):
        for params in ("", "p", "p q"):
            self.assertIsNone(of(params=params))
        self.unplain("params", params="p q r")

    def test_statements(self):
        self.plain(let("x", NONE), put("x", NONE), keep("x", NONE), do(NONE), cond(same(n("x"), w("a")), ()),
                   attempt((), "e", ()), last((), ()), throw(NONE))
        self.plain(ret(NONE))
        for odd in (say("a"), show(n("p")), loop(same(n("p"), w("a")), do(NONE)), loop(YES)):
            self.unplain("statement", odd)
            self.unplain("statement", cond(same(n("p"), w("a")), (), (odd,)))
            self.unplain("statement", attempt((odd,), "e", ()))
            self.unplain("statement", attempt((), "e", (last((), (odd,)),)))
            self.unplain("statement", ret(NONE), last((odd,), ()))
        self.unplain("statement", loop(same(n("p"), w("a")), say("a")))

    def test_functions_are_not_looked_into(self):
        odd = fn("a b c", say("a"), loop(YES), do(n("z")), do(new("box")), *[do(w(word)) for word in "cdefgh"])
        self.unplain("right", do(odd))
        self.unplain("right", do(call(odd)))
        self.unplain("right", do(call(n("p"), NONE, odd)))
        self.unplain("right", do(ask(ME, "k", odd)))
        self.unplain("test", cond(same(odd, w("a")), ()))
        self.unplain("test", cond(same(f("x"), odd), ()))
        self.unplain("statement", show(odd))
        self.unplain("statement", do(odd), say("a"))

    def test_rights(self):
        five = (w("a"), NONE, n("p"), ME, f("x"))
        for statement in (lambda right: do(right), lambda right: let("y", right), lambda right: put("p", right),
                          lambda right: keep("x", right), lambda right: ret(right), lambda right: throw(right)):
            for one in five:
                self.plain(statement(one))
                for other in five:
                    self.plain(statement(call(n("q"), one, other)))
                    self.plain(statement(ask(ME, "k", one, other)))
            self.plain(statement(call(n("q"))))
            self.plain(statement(ask(ME, "k")))
            for odd in (new("box"), fn(""), call(w("a")), call(NONE), call(ME), call(f("x")), call(fn("")),
                        call(new("box")), ask(n("p"), "k"), ask(NONE, "k"), ask(f("x"), "k"), ask(w("me"), "k"),
                        call(n("p"), NONE, NONE, NONE), ask(ME, "k", NONE, NONE, NONE), call(n("p"), new("box")),
                        ask(ME, "k", NONE, fn(""))):
                self.unplain("right", statement(odd))
                self.unplain("right", attempt((), "e", (ret(NONE), last((), (statement(odd),)))))

    def test_parents_calls(self):
        self.assertEqual(unplain(cls({"m": method("", do(parent("m")))}, {}, "top")), "parent")

    def test_tests(self):
        five = (w("a"), NONE, n("p"), ME, f("x"))
        for one in five:
            for other in five:
                good = one[0] in ("word", "field") or other[0] in ("word", "field")
                test = same(one, other)
                for made in (test, ("not", test), ("both", same(w("a"), w("b")), test),
                             ("either", ("not", test), same(f("x"), f("x"))), ("not", ("not", test))):
                    self.assertEqual(of(cond(made, ())), None if good else "test", made)
        for odd in (new("box"), fn("")):
            self.unplain("test", cond(same(odd, w("a")), ()))
            self.unplain("test", cond(same(f("x"), odd), ()))
        for odd in (YES, NO, ("both", same(w("a"), w("a")), NO)):
            self.unplain("test", cond(odd, ()))
            self.unplain("test", attempt((), "e", (last((), (throw(NONE), cond(odd, ()))),)))


class Rings(Case):
    def made(self, **asked):
        methods = {}
        for name, others in asked.items():
            methods[name] = method("", *[do(ask(ME, other)) for other in others.split()])
        return unplain(cls(methods))

    def test_rings(self):
        self.assertEqual(self.made(a="a"), "ring")
        self.assertEqual(self.made(a="b", b="a"), "ring")
        self.assertEqual(self.made(a="b", b="c", c="d", d="e", e="c"), "ring")
        self.assertEqual(self.made(a="b", b="c", c="d", d="e", e="a"), "ring")
        self.assertEqual(self.made(a="", b="", c="q c"), "ring")

    def test_no_rings(self):
        self.assertIsNone(self.made(a="b c d e", b="c d e", c="d e", d="e", e=""))
        self.assertIsNone(self.made(a="b b", b="q", c="b"))
        self.assertIsNone(self.made(a="z", b="z"))
        self.assertIsNone(self.made(a="b c", b="d", c="d", d=""))

    def test_a_ring_of_what_is_never_done(self):
        self.unplain("ring", ret(NONE), do(ask(ME, "m")))
        self.unplain("ring", cond(same(w("a"), w("b")), (ret(ask(ME, "m", NONE)),)))
        for statement in (let("x", ask(ME, "k")), put("p", ask(ME, "k")), keep("x", ask(ME, "k")), ret(ask(ME, "k")),
                          throw(ask(ME, "k"))):
            self.unplain("ring", attempt((), "e", (last((), (statement,)),)), k=method("", do(ask(ME, "m"))))

    def test_asks_of_others_make_no_ring(self):
        self.plain(do(call(n("p"), ME)), k=method("p", do(call(n("p"), ME))))


class Asks(Case):
    def test_five_and_six(self):
        asks = [do(ask(ME, name)) for name in ("qa", "qb", "qc", "qd", "qe")]
        self.plain(*asks)
        self.plain(*asks, *asks)
        self.plain(*asks[:2], k=method("", *asks[1:]))
        self.unplain("asks", *asks, do(ask(ME, "qf")))
        self.unplain("asks", *asks[:2], k=method("", *asks[2:], do(ask(ME, "qf"))))
        self.unplain("asks", *asks, ret(NONE), do(ask(ME, "qf", NONE)))

    def test_methods_of_the_class_count_if_asked(self):
        rest = {name: method("") for name in ("qa", "qb", "qc", "qd")}
        asks = [do(ask(ME, name)) for name in ("qa", "qb", "qc", "qd", "qe")]
        self.plain(*asks, **rest)
        self.unplain("asks", *asks, do(ask(ME, "qf")), **rest)


class FiveWords(Case):
    def test_five_and_six(self):
        self.plain(*[do(w(word)) for word in "abcde"])
        self.unplain("words", *[do(w(word)) for word in "abcdef"])
        self.plain(do(w("e")), fields={"x": ("a", "b", "c", "d"), "y": ("b", "a")})
        self.unplain("words", do(w("e")), fields={"x": ("a", "b", "c", "d"), "y": ("f", "a")})
        self.unplain("words", fields={"x": ("a", "b", "c"), "y": ("d", "e", "f")})
        self.plain(fields={"x": ("a", "b", "c"), "y": ("d", "e", "a")})

    def test_wherever_they_stand(self):
        places = [
            lambda word: do(call(n("p"), NONE, word)), lambda word: ret(ask(ME, "k", word)),
            lambda word: cond(same(n("p"), word), ()),
            lambda word: cond(("not", ("both", same(word, ME), same(word, word))), ()),
            lambda word: attempt((throw(word),), "e", ()), lambda word: attempt((), "e", (throw(word),)),
            lambda word: last((ret(word),), ()), lambda word: last((), (keep("x", word),)), lambda word: put("p", word),
        ]
        for place in places:
            made = [place(w(word)) for word in "abcdef"]
            self.plain(*made[:5])
            self.unplain("words", *made)
            self.assertEqual(words_of(cls({"m": method("p", *made[4::-1])}, FIELDS)), list("abcde"))

    def test_names_are_no_words(self):
        self.plain(*[do(w(word)) for word in "abcde"], let("f", NONE), do(ask(ME, "g")), do(f("x")),
                   attempt((), "h", ()), fields={"x": ("a",), "y": ("b",)}, k=method("i j"))


class Sure(Case):
    def sure(self, *block, params="p"):
        self.assertIsNone(of(*block, params=params), block)

    def unsure(self, *block, params="p"):
        self.assertEqual(of(*block, params=params), "name", block)

    TEST = same(f("x"), w("a"))

    def test_what_uses_a_name(self):
        for use in (do(n("z")), let("y", n("z")), put("p", n("z")), keep("x", n("z")), ret(n("z")), throw(n("z")),
                    do(call(n("z"))), do(call(n("p"), n("z"))), do(call(n("p"), NONE, n("z"))),
                    ret(ask(ME, "k", n("z"))),
                    ret(ask(ME, "k", NONE, n("z"))), put("z", NONE), put("z", call(n("p"))), let("z", n("z")),
                    cond(same(n("z"), w("a")), ()), cond(same(f("x"), n("z")), ()),
                    cond(("both", self.TEST, ("not", same(n("z"), w("a")))), ()),
                    cond(("either", same(w("a"), n("z")), self.TEST), ())):
            self.unsure(use)
            self.unsure(attempt((), "e", (use,)))
            self.unsure(last((), (cond(self.TEST, (), (use,)),)))
            self.sure(let("z", NONE), use)
            self.sure(use, params="p z")
            self.sure(ret(NONE), use)

    def test_params(self):
        self.sure(do(n("p")), do(n("q")), params="p q")
        self.unsure(do(n("p")), params="q")
        self.assertEqual(unplain(cls({"m": method("p"), "k": method("", do(n("p")))})), "name")
        self.assertEqual(unplain(cls({"m": method("", let("z", NONE)), "k": method("", do(n("z")))})), "name")

    def test_a_set_makes_nothing_sure(self):
        self.unsure(put("z", NONE), do(n("z")))
        self.unsure(put("z", NONE))
        self.sure(let("z", NONE), put("z", n("z")), do(n("z")))

    def test_if(self):
        self.sure(cond(self.TEST, (let("z", NONE),), (let("z", ME),)), do(n("z")))
        self.unsure(cond(self.TEST, (let("z", NONE),), ()), do(n("z")))
        self.unsure(cond(self.TEST, (), (let("z", NONE),)), do(n("z")))
        self.sure(cond(self.TEST, (ret(NONE),), (let("z", NONE),)), do(n("z")))
        self.sure(cond(self.TEST, (let("z", NONE),), (throw(NONE),)), do(n("z")))
        self.sure(cond(self.TEST, (throw(NONE),), (ret(NONE),)), do(n("z")))
        self.unsure(cond(self.TEST, (let("z", NONE),), (do(n("z")),)))
        self.sure(cond(self.TEST, (let("z", NONE), do(n("z"))), ()))
        self.unsure(cond(self.TEST, (let("y", NONE), let("z", NONE)), (let("y", NONE),)), do(n("y")), do(n("z")))
        self.sure(cond(self.TEST, (let("y", NONE), let("z", NONE)), (let("y", NONE),)), do(n("y")), do(n("p")))

    def test_a_test_that_always_holds_is_no_help(self):
        self.unsure(cond(same(w("a"), w("a")), (let("z", NONE),)), do(n("z")))
        self.unsure(cond(same(w("a"), w("b")), (do(n("z")),)))

    def test_try(self):
        self.sure(attempt((), "e", (do(n("e")), do(n("p")))))
        self.unsure(attempt((let("z", NONE),), "e", (do(n("z")),)))
        self.unsure(attempt((do(n("e")),), "e", ()))
        self.unsure(attempt((), "e", ()), do(n("e")))
        self.sure(attempt((let("e", NONE),), "e", ()), do(n("e")))
        self.unsure(attempt((let("z", NONE),), "e", ()), do(n("z")))
        self.sure(attempt((let("z", NONE),), "e", (let("z", n("e")),)), do(n("z")))
        self.sure(attempt((let("z", NONE),), "z", ()), do(n("z")))
        self.sure(attempt((let("z", NONE),), "e", (ret(NONE),)), do(n("z")))
        self.unsure(attempt((let("z", NONE),), "e", (ret(NONE),)), do(n("e")))
        self.sure(attempt((throw(NONE),), "e", ()), do(n("e")))
        self.sure(attempt((ret(NONE),), "e", (let("z", NONE),)), do(n("e")), do(n("z")))
        self.unsure(attempt((ret(NONE),), "e", (do(n("z")),)))
        self.sure(ret(NONE), attempt((do(n("y")),), "e", (do(n("z")),)), do(n("u")))

    def test_last(self):
        self.sure(last((let("z", NONE),), ()), do(n("z")))
        self.sure(last((), (let("z", NONE),)), do(n("z")))
        self.sure(last((let("y", NONE),), (let("z", NONE),)), do(n("z")), do(n("y")))
        self.unsure(last((let("z", NONE),), (do(n("z")),)))
        self.unsure(last((ret(NONE),), (do(n("z")),)))
        self.sure(last((ret(NONE),), ()), do(n("z")))
        self.sure(last((), (throw(NONE),)), do(n("z")))
        self.sure(last((do(n("p")),), (do(n("p")),)))
        self.unsure(last((), ()), do(n("z")))
        self.sure(ret(NONE), last((do(n("y")),), (do(n("z")),)))

    def test_behind_a_return_and_a_raise(self):
        for end in (ret(NONE), throw(NONE), ret(call(n("p"))), throw(ask(ME, "k"))):
            self.sure(end, do(n("z")), put("z", NONE), cond(same(n("z"), w("a")), (do(n("y")),)), do(n("u")))
            self.unsure(cond(self.TEST, (end,)), do(n("z")))
            self.sure(cond(self.TEST, (end, do(n("z"))), ()))
            self.sure(cond(self.TEST, (end, let("y", NONE)), (let("z", NONE),)), do(n("z")))

    def test_names_of_the_body_are_not_sure(self):
        self.unsure(do(n("shared")))

    def test_deep(self):
        block = (do(n("z")),)
        for wrap in (lambda inner: cond(self.TEST, inner, (ret(NONE),)), lambda inner: attempt((), "e", inner),
                     lambda inner: attempt(inner, "e", (ret(NONE),)), lambda inner: last(inner, ()),
                     lambda inner: last((), inner), lambda inner: cond(self.TEST, (), inner)):
            block = (wrap(block),)
        self.sure(let("z", NONE), *block)
        self.sure(last((), (let("z", NONE),)), *block)
        self.unsure(*block)
        self.unsure(attempt((let("z", NONE),), "e", ()), *block)


class Lists(unittest.TestCase):
    def setUp(self):
        self.cls = cls({"put": method("p", let("r", call(n("p"), w("q"), NONE)), keep("b", n("r")),
                                      cond(same(w("e"), n("r")), (ret(w("z")),))),
                        "get": method("", ret(f("b")))}, {"b": ("z", "c"), "a": ("e", "z")})

    def test_words_and_methods(self):
        self.assertEqual(words_of(self.cls), ["c", "e", "q", "z"])
        self.assertEqual(methods_of(self.cls), ["get", "put"])
        self.assertEqual(words_of(cls()), [])
        self.assertEqual(methods_of(cls()), [])
        self.assertEqual(words_of(cls({}, {"x": ("zz", "abc")}, mark="closed")), ["abc", "zz"])

    def test_what_no_plain_class_is(self):
        for wrong in [None, deep("list"), cls({"m": method("", say("a"))}), cls({}, {}, "top"), body(), "box"]:
            for function in (words_of, methods_of):
                with self.assertRaises(NotPlain) as caught:
                    function(wrong)
                self.assertEqual(caught.exception.cls, wrong)

    def test_nothing_changes(self):
        ahead = copy.deepcopy(self.cls)
        words_of(self.cls).append("more")
        methods_of(self.cls).append("more")
        self.assertEqual(self.cls, ahead)
        self.assertEqual(words_of(self.cls), ["c", "e", "q", "z"])
        self.assertEqual(methods_of(self.cls), ["get", "put"])


if __name__ == "__main__":
    unittest.main()
