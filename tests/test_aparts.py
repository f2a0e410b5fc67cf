"""[22]: rows of moves that tell two plain classes apart."""

import copy
import unittest

import naive
from counters import doubling, moves_of_doubling, nested, plain_counter
from machines import MachineMaker
from plainmaker import PlainMaker
from shorthand import (ME, NONE, ask, attempt, body, call, cls, cond, deep, do, f, keep, let, method, n, ret, same,
                       say, throw, w)
from standsfor.aparts import apart, fewest_moves, is_apart
from standsfor.errors import BadMark, BadNumber, NotPlain, TooMany
from standsfor.plain import words_of
from standsfor.plays import Play, played
from standsfor.reach import ever
from standsfor.tables import alike
from test_general import ODD_VALUES, limit_of_calls

A = w("a")
B = w("b")
ABLE = ("able",)
UNABLE = ("unable",)
GET = ("ask", "get", NONE, NONE)
TELL = {"tell": method("p", do(call(n("p"))), ret(f("x"))), "put": method("p", keep("x", n("p")))}
EARLY = {"tell": method("p", let("w", f("x")), do(call(n("p"))), ret(n("w"))), "put": TELL["put"]}


def teller(methods, mark="open"):
    return cls(methods, {"x": ("a", "b")}, mark=mark)


def both_marks(one, other):
    return [((None, mark, *one[2:]), (None, mark, *other[2:])) for mark in ("open", "closed")]


class Apart(unittest.TestCase):
    def check(self, one, other, fewest):
        for first, second in ((one, other), (other, one)):
            self.assertEqual(fewest_moves(first, second), fewest)
            row = apart(first, second)
            if fewest is None:
                self.assertIsNone(row)
                self.assertIs(alike(first, second), True)
                continue
            self.assertIsInstance(row, list)
            self.assertGreaterEqual(len(row), fewest)
            words = sorted(set(words_of(one) + words_of(other)))
            events, others = played(first, words, row), played(second, words, row)
            self.assertEqual(events[:-1], others[:-1])
            self.assertNotEqual(events[-1], others[-1])
            self.assertIs(is_apart(first, second, row), True)
            self.assertIs(alike(first, second), False)
            if fewest < 5:
                self.assertIsNone(naive.told_apart(first, second, fewest - 1))
                self.assertIsNotNone(naive.told_apart(first, second, fewest))

    def test_one_move(self):
        for one, other in (({"m": method("", ret(A))}, {"m": method("", ret(B))}),
                           ({"m": method("", ret(A))}, {"m": method("", throw(A))}),
                           ({"m": method("")}, {}),
                           ({"m": method("p q", ret(n("q")))}, {"m": method("p q", ret(n("p")))}),
                           ({"m": method("p", ret(n("p")))}, {"m": method("p", ret(ME))}),
                           ({"m": method("p", do(call(n("p"))))}, {"m": method("p", do(call(n("p"), NONE, ME)))}),
                           ({"m": method("p q", do(call(n("p"))))}, {"m": method("q p", do(call(n("p"))))})):
            for first, second in both_marks(cls(one), cls(other)):
                self.check(first, second, 1)

    def test_more_moves(self):
        for one, other in both_marks(teller(TELL), teller(EARLY)):
            self.check(one, other, 3)
        for one, other in both_marks(teller({"m": TELL["put"], "get": method("", ret(f("x")))}),
                                     teller({"m": method("p", keep("x", A)), "get": method("", ret(A))})):
            self.check(one, other, 1)
        words = {"x": ("a", "b")}
        late = {"m": method("p", attempt((do(call(n("p"))),), "e", (do(call(n("p"), n("e"))),)))}
        for one, other in both_marks(cls(late, words), cls({"m": method("p", attempt((do(call(n("p"))),), "e",
                                                                                   (do(call(n("p"))),)))}, words)):
            self.check(one, other, 2)

    def test_alike_classes(self):
        for one, other in both_marks(teller(TELL), teller({**TELL, "no": method("", throw(w("nomethod")))})):
            self.check(one, other, None)
        self.check(cls(), cls({}, {"x": ("a",)}), None)

    def test_asks_of_itself(self):
        straight = {"m": method("", ret(A)), "k": method("", ret(A))}
        asking = {"m": method("", ret(ask(ME, "k"))), "k": method("", ret(A))}
        self.check(cls(straight), cls(asking), 1)
        self.check(cls(straight, mark="closed"), cls(asking, mark="closed"), None)
        handing = {"m": method("p", do(ask(ME, "k", n("p")))), "k": method("p")}
        self.check(cls(handing), cls({**handing, "m": method("p", do(ask(ME, "k")))}), 1)
        self.check(cls(handing, mark="closed"), cls({**handing, "m": method("p", do(ask(ME, "k")))}, mark="closed"),
                   None)

    def test_what_came_by_a_give_or_a_throw(self):
        one = cls({"m": method("p", let("r", call(n("p"))), do(call(n("p"))), ret(n("r")))})
        other = cls({"m": method("p", do(call(n("p"))), let("r", call(n("p"))), ret(n("r")))})
        for first, second in both_marks(one, other):
            self.check(first, second, 3)
        one = cls({"m": method("p", attempt((do(call(n("p"))),), "e", (do(call(n("e"))),)))})
        for first, second in both_marks(one, cls({"m": method("p", attempt((do(call(n("p"))),), "e", ()))})):
            self.check(first, second, 1)
        other = cls({"m": method("p", attempt((do(call(n("p"))),), "e", (throw(w("nofunc")),)))})
        for first, second in both_marks(one, other):
            self.check(first, second, 2)
            self.assertEqual(apart(first, second)[1], ("throw", ABLE))

    def test_words_of_the_other_class_alone(self):
        for word in ("more", "nofunc"):
            one = cls({"m": method("p", ret(n("p")))})
            other = cls({"m": method("p", cond(same(n("p"), w(word)), (ret(NONE),)), ret(n("p")))})
            for first, second in both_marks(one, other):
                self.check(first, second, 1)
                self.assertIs(is_apart(first, second, [("ask", "m", w(word), NONE)]), True)

    def test_chance(self):
        seen = {}
        for seed in range(5000, 5110):
            maker = PlainMaker(seed, size=3, calls=2)
            one = other = maker.cls()
            for _ in range(maker.chance.choice((1, 1, 2, 3))):
                other = maker.changed(other)
            try:
                fewest = fewest_moves(one, other, most=120)
            except TooMany:
                for function in (apart, alike):
                    with self.assertRaises(TooMany):
                        function(one, other, most=120)
                continue
            with self.subTest((one, other)):
                self.check(one, other, fewest)
            seen[fewest] = seen.get(fewest, 0) + 1
        self.assertGreater(min(seen[fewest] for fewest in (None, 1, 2, 3)), 1, seen)


class Many(unittest.TestCase):
    """Classes that only many moves tell apart."""

    def check(self, one, other, fewest):
        self.assertEqual(fewest_moves(one, other), fewest)
        row = apart(one, other, most=max(fewest, 400))
        self.assertIs(is_apart(one, other, row), True)
        self.assertGreaterEqual(len(row), fewest)
        # What is left has to be within the bound of alike in any case.
        if fewest > 400:
            with self.assertRaises(TooMany) as caught:
                apart(one, other, most=fewest - 1)
            self.assertEqual(caught.exception.most, fewest - 1)
            self.assertEqual(fewest_moves(one, other, most=fewest - 1), fewest)

    def test_counters(self):
        for full in (1, 7, 40, 63):
            for mark in ("open", "closed"):
                self.check(plain_counter(3, full, "b", mark), plain_counter(3, full, "c", mark), full + 1)

    def test_calls_within_one_another(self):
        for full in (1, 7, 40, 63):
            for mark in ("open", "closed"):
                self.check(nested(full, "b", mark), nested(full, "c", mark), full + 1)

    def test_each_digit_takes_twice_as_many_moves(self):
        for many, full in ((1, 2), (1, 3), (2, 6), (2, 9), (2, 11)):
            for mark in ("open", "closed"):
                self.check(doubling(many, full, "b", mark), doubling(many, full, "c", mark), 2 ** (full + 1) - 1)

    def test_machines(self):
        """What a slow search by breadth finds; ever finds the event by which they are told apart, too."""
        seen = {}
        for seed in range(250):
            one, other = MachineMaker(seed).classes("a", "b")
            try:
                fewest = fewest_moves(one, other)
            except TooMany:
                continue
            row = ever(one, list("abcd"), ("gives", A))
            self.assertEqual(fewest, None if row is None else len(row))
            if fewest is not None:
                self.assertEqual(len(apart(one, other)), fewest)
                self.assertIs(is_apart(one, other, apart(one, other)), True)
                if fewest < 9:
                    self.assertIn(naive.fewest_apart(one, other, fewest, 3000), (fewest, "many"))
            seen[fewest] = seen.get(fewest, 0) + 1
        self.assertGreater(min(seen[fewest] for fewest in range(3, 9)), 1, seen)

    def test_what_waits_in_two_levels(self):
        """What is far from the beginning of the one level was near to that of the other, and is known by then."""
        fields = {"x": ("c", "d", "a", "b"), "y": ("a", "b")}
        steps = [cond(same(f("x"), w(low)), (keep("x", w(high)), ret(NONE))) for low, high in ("ab", "bc", "cd", "da")]
        methods = {"up": method("", *steps),
                   "go": method("p", cond(same(f("x"), w("d")), (do(call(n("p"))), keep("y", B)))),
                   "hold": method("p", keep("x", A), keep("y", A), do(call(n("p"))))}
        for mark in ("open", "closed"):
            made = []
            for word in ("b", "c"):
                end = cond(same(f("y"), B), (ret(w(word)),))
                hold = (methods["hold"][0], (*methods["hold"][1], end))
                made.append(cls({**methods, "hold": hold}, fields, mark=mark))
            self.check(*made, 7)
            self.assertEqual([move[0] for move in apart(*made)], ["ask"] * 5 + ["give"] * 2)

    def test_slow_search_agrees(self):
        one, other = doubling(1, 1, "b", "closed"), doubling(1, 1, "c", "closed")
        self.assertIsNone(naive.told_apart(one, other, 2))
        self.assertIsNotNone(naive.told_apart(one, other, 3))

    def test_the_bound_at_the_fewest_moves(self):
        """The pairs and the waits stay within a far smaller bound."""
        one, other = doubling(2, 15, "b"), doubling(2, 15, "c")
        fewest = moves_of_doubling(15)
        self.assertEqual(fewest, 65535)
        self.assertIs(alike(one, other, most=16), False)
        self.assertEqual(fewest_moves(one, other, most=16), fewest)
        self.assertEqual(len(apart(one, other, most=fewest)), fewest)
        for most in (16, 2000, fewest - 1):
            with self.assertRaises(TooMany) as caught:
                apart(one, other, most=most)
            self.assertEqual(caught.exception.most, most)
        with self.assertRaises(TooMany):
            apart(one, other)

    def test_most_is_2000_unless_told(self):
        one, other = doubling(2, 9, "b"), doubling(2, 9, "c")
        self.assertEqual(len(apart(one, other)), 1023)
        one, other = doubling(2, 10, "b"), doubling(2, 10, "c")
        with self.assertRaises(TooMany) as caught:
            apart(one, other)
        self.assertEqual(caught.exception.most, 2000)

    def test_more_moves_than_could_ever_be_made(self):
        one, other = doubling(3, 63, "b"), doubling(3, 63, "c")
        self.assertEqual(fewest_moves(one, other), 2 ** 64 - 1)
        with self.assertRaises(TooMany):
            apart(one, other, most=100000)

    def test_no_deep_calls(self):
        one, other = doubling(2, 11, "b"), doubling(2, 11, "c")
        with limit_of_calls(80):
            row = apart(one, other, most=5000)
            self.assertIs(is_apart(one, other, row), True)
            self.assertEqual(fewest_moves(nested(63, "b"), nested(63, "c")), 64)


class Judged(unittest.TestCase):
    ONE = teller(TELL)
    OTHER = teller(EARLY)
    ROW = [("ask", "tell", ABLE, NONE), ("ask", "put", B, NONE), ("give", NONE)]

    def judged(self, thing):
        told = is_apart(self.ONE, self.OTHER, thing)
        self.assertIs(is_apart(self.OTHER, self.ONE, thing), told)
        return told

    def test_rows_that_tell_apart(self):
        for value in (A, B, NONE, ABLE, UNABLE):
            self.assertIs(self.judged(self.ROW[:2] + [("give", value)]), True)
        self.assertIs(self.judged([("ask", "put", B, NONE), ("ask", "tell", ABLE, ABLE), ("ask", "put", A, UNABLE),
                                   ("give", A)]), True)
        self.assertIs(self.judged([("ask", "none", B, NONE), ("ask", "put", UNABLE, NONE)] + self.ROW), True)

    def test_one_move_less_or_more(self):
        for at in range(3):
            self.assertIs(self.judged(self.ROW[:at] + self.ROW[at + 1:]), False)
        for move in (GET, ("ask", "tell", ABLE, NONE), ("ask", "put", A, A), ("give", A), ("throw", A)):
            self.assertIs(self.judged(self.ROW + [move]), False)
        self.assertIs(self.judged([]), False)

    def test_an_event_that_is_unlike_too_early(self):
        self.assertIs(self.judged(self.ROW * 2), False)
        one, other = cls({"m": method("", ret(A))}), cls({"m": method("", ret(B))})
        move = ("ask", "m", NONE, NONE)
        for many in range(5):
            self.assertIs(is_apart(one, other, [move] * many), many == 1)
        self.assertIs(self.judged(self.ROW + [("ask", "put", A, NONE)] + self.ROW), False)

    def test_things_that_are_no_moves(self):
        wrong = [GET[:3], (*GET, NONE), list(GET), ("ask", "Get", NONE, NONE), ("ask", 5, NONE, NONE), ("give",),
                 ("give", NONE, NONE), ("take", NONE), ("give", w("c")), ("ask", "put", w("c"), NONE),
                 ("give", ME), ("give", ("other", 0)), ("give", ("able", 0)), None, (), "give", ("throw", True)]
        for move in wrong + ODD_VALUES:
            for at in range(4):
                self.assertIs(self.judged(self.ROW[:at] + [move] + self.ROW[at:]), False)
            self.assertIs(self.judged([move]), False)

    def test_moves_where_nothing_waits(self):
        for kind in ("give", "throw"):
            self.assertIs(self.judged([(kind, NONE)] + self.ROW), False)
            self.assertIs(self.judged([("ask", "tell", ABLE, NONE), (kind, NONE), (kind, NONE)]), False)

    def test_no_lists(self):
        for thing in [tuple(self.ROW), dict.fromkeys(self.ROW), None, "row"] + ODD_VALUES:
            self.assertIs(self.judged(thing), False)
        for thing in (Play(self.ONE, ["a", "b"]), body()):
            self.assertIs(self.judged(thing), False)

    def test_alike_classes(self):
        for row in ([], self.ROW, self.ROW[:1]):
            self.assertIs(is_apart(self.ONE, self.ONE, row), False)

    def test_words_of_both(self):
        one = cls({"m": method("p", ret(n("p")))})
        other = cls({"m": method("p", cond(same(n("p"), w("more")), (ret(NONE),)), ret(n("p")))})
        for first, second in ((one, other), (other, one)):
            self.assertIs(is_apart(first, second, [("ask", "m", w("more"), NONE)]), True)
            self.assertIs(is_apart(first, second, [("ask", "m", w("less"), NONE), ("ask", "m", w("more"), NONE)]),
                          False)

    def test_methods_of_the_other_class_alone(self):
        self.assertIs(is_apart(cls(), cls({"m": method("")}), [("ask", "m", NONE, NONE)]), True)
        self.assertIs(is_apart(cls(), cls({"m": method("")}), [("ask", "k", NONE, NONE)]), False)
        self.assertIs(is_apart(cls(), cls({"m": method("", throw(w("nomethod")))}), [("ask", "m", NONE, NONE)]), False)


class Wrong(unittest.TestCase):
    PLAIN = cls({"m": method("")})
    CLOSED = cls({"m": method("")}, mark="closed")
    WRONG = [None, True, 0, "box", (), [], {}, deep("tuple"), deep("list"), deep("dict"), cls({}, {}, "top"), body(),
             cls({"m": method("", say("a"))}), (None, "open", {}), cls({"m": method("", do(ask(ME, "m")))})]

    def raises(self, error, attribute, value, function, *args, **more):
        with self.assertRaises(error) as caught:
            function(*args, **more)
        self.assertEqual(getattr(caught.exception, attribute), value)
        self.assertIs(type(getattr(caught.exception, attribute)), type(value))

    def test_classes(self):
        for wrong in self.WRONG:
            for function in (apart, fewest_moves):
                self.raises(NotPlain, "cls", wrong, function, wrong, None, most=0)
                self.raises(NotPlain, "cls", wrong, function, self.PLAIN, wrong, most=None)
                self.raises(NotPlain, "cls", wrong, function, self.CLOSED, wrong)
            self.raises(NotPlain, "cls", wrong, is_apart, wrong, "other", None)
            self.raises(NotPlain, "cls", wrong, is_apart, self.PLAIN, wrong, [])

    def test_marks(self):
        for one, other in ((self.PLAIN, self.CLOSED), (self.CLOSED, self.PLAIN)):
            for function in (apart, fewest_moves):
                self.raises(BadMark, "cls", other, function, one, other, most=0)
            self.raises(BadMark, "cls", other, is_apart, one, other, None)

    def test_numbers(self):
        lets = [let(name, call(n("p"))) for name in "abcdefgh"]
        many = cls({"m": method("p", *lets)})
        for function in (apart, fewest_moves):
            for most in ODD_VALUES + [-1, 100001, 10 ** 30, "5", (5,)]:
                if most != 1 or isinstance(most, bool):
                    self.raises(BadNumber, "number", most, function, many, many, most=most)
            for most in (1, 2, 2000, 100000):
                self.assertIsNone(function(self.PLAIN, self.PLAIN, most=most))
            with self.assertRaises(TypeError):
                function(self.PLAIN, self.PLAIN, 2000)
            self.raises(TooMany, "most", 500, function, many, many, most=500)

    def test_too_many_as_alike_also_if_an_event_is_unlike(self):
        names = {name: ("a", "b") for name in "xyz"}
        one = cls({name: method("p", keep(name, n("p"))) for name in "xyz"}, names)
        other = cls({"bad": method(""), **one[3]}, names)
        for function in (apart, fewest_moves, alike):
            function(one, other, most=8)
            self.raises(TooMany, "most", 7, function, one, other, most=7)

    def test_arguments_stay_and_lists_are_new(self):
        one, other = teller(TELL), teller(EARLY)
        ahead = copy.deepcopy((one, other))
        row = apart(one, other)
        held = list(row)
        is_apart(one, other, row)
        fewest_moves(one, other)
        self.assertEqual((one, other), ahead)
        self.assertEqual(row, held)
        row.append("more")
        self.assertEqual(apart(one, other), held)


if __name__ == "__main__":
    unittest.main()
