"""[23] and [24]: programs that tell two classes apart, and the lines at which runs part."""

import copy
import unittest

from counters import doubling, fields, holds, nested, plain_counter, up
from plainmaker import PlainMaker
from shorthand import (ME, NONE, YES, ask, body, call, chain, cls, cond, deep, do, f, keep, last, let, loop, method, n,
                       new, packed, parent, ret, same, say, show, throw, w)
from standsfor.aparts import fewest_moves
from standsfor.errors import BadMark, BadName, BadNumber, BadProgram, NotPlain, TooLong, TooMany
from standsfor.machine import Machine
from standsfor.plain import unplain
from standsfor.programs import Program, with_class
from standsfor.runs import run
from standsfor.sessions import Session
from standsfor.tellings import is_telling, parts, telling
from test_general import ODD_VALUES, limit_of_calls

A = w("a")
B = w("b")
TELL = {"tell": method("p", do(call(n("p"))), ret(f("x"))), "put": method("p", keep("x", n("p")))}
EARLY = {"tell": method("p", let("w", f("x")), do(call(n("p"))), ret(n("w"))), "put": TELL["put"]}


def both_marks(one, other):
    return [((None, mark, *one[2:]), (None, mark, *other[2:])) for mark in ("open", "closed")]


def measured(program):
    """The lines, the steps and the most calls under way of a run that ends."""
    machine = Machine(program)
    while machine.ending is None:
        machine.step()
    return machine.printed, machine.steps, machine.deepest


class Checked(unittest.TestCase):
    def check(self, one, other):
        """That both are told apart both ways; the most steps and calls."""
        most = (0, 0)
        for first, second in ((one, other), (other, one)):
            program = telling(first, second)
            self.assertIsInstance(program, Program)
            self.assertEqual(program.classes["box"], first)
            changed = with_class(program, "box", second)
            (lines, *sizes), (others, *other_sizes) = measured(program), measured(changed)
            self.assertNotEqual(lines, others)
            for steps, calls in (sizes, other_sizes):
                self.assertLessEqual(steps, 20000)
                self.assertLessEqual(calls, 200)
                most = (max(most[0], steps), max(most[1], calls))
            self.assertIs(is_telling(first, second, program), True)
            self.assertIs(is_telling(second, first, program), False)
            self.assertIs(is_telling(second, first, changed), True)
            self.assertIs(is_telling(first, second, changed), False)
            self.assertIs(is_telling(first, first, program), False)
            self.assertEqual(run(program)[0], lines)
            self.assertIsNotNone(parts(program, "box", second))
            heirs = [name for name, made in program.classes.items() if made[0] is not None]
            if first[1] == "closed":
                self.assertEqual(heirs, [])
        return most


class Telling(Checked):
    def test_events_of_each_kind(self):
        methods = [{"m": method("", ret(A))}, {"m": method("", ret(B))}, {"m": method("", throw(A))},
                   {"m": method("", ret(w("none")))}, {"m": method("")}, {"m": method("", ret(ME))}, {},
                   {"m": method("", throw(NONE))}, {"m": method("", ret(w("thing")))},
                   {"m": method("", ret(w("function")))}, {"m": method("", ret(w("me")))},
                   {"m": method("p", ret(n("p")))}, {"m": method("p q", ret(n("q")))},
                   {"m": method("p", throw(n("p")))}, {"m": method("p q", throw(n("q")))},
                   {"m": method("p", do(call(n("p"))))}, {"m": method("p q", do(call(n("q"))))},
                   {"m": method("p", do(call(n("p"), n("p"))))}, {"m": method("p", do(call(n("p"), NONE, n("p"))))},
                   {"m": method("p", do(call(n("p"), ME)))}, {"m": method("p", do(call(n("p"), A)))},
                   {"m": method("p", do(call(n("p"), w("none"))))}, {"m": method("", ret(w("uaa")))},
                   {"m": method("", ret(w("word")))}, {"m": method("", ret(w("nofunc")))}]
        for at, one in enumerate(methods):
            for other in methods[:at]:
                for first, second in both_marks(cls(one), cls(other)):
                    with self.subTest((first, second)):
                        self.check(first, second)

    def test_functions_that_have_to_be_told_from_one_another(self):
        calls = [do(call(n("p"))), do(call(n("q")))]
        more = [let("r", call(n("p"))), do(call(n("q"))), do(call(n("r")))]
        for block, names in ((calls, "pq"), (more, "pqr")):
            made = [cls({"m": method("p q", *block, ret(n(name)))}) for name in names]
            made += [cls({"m": method("p q", *block, ret(value))}) for value in (ME, NONE)]
            for at, one in enumerate(made):
                for other in made[:at]:
                    for first, second in both_marks(one, other):
                        self.check(first, second)

    def test_asks_of_itself(self):
        asking = [{"m": method("p", do(ask(ME, "k")))}, {"m": method("p", do(ask(ME, "j")))},
                  {"m": method("p", do(ask(ME, "m", n("p")))), "j": method("")},
                  {"m": method("p", do(ask(ME, "k", n("p"))))}, {"m": method("p", do(ask(ME, "k", NONE, n("p"))))},
                  {"m": method("p", do(ask(ME, "k", ME)))}, {"m": method("p", ret(ask(ME, "k")))},
                  {"m": method("p", do(ask(ME, "raa"))), "raa": method("")},
                  {"m": method("p", do(ask(ME, "gives")))}, {"m": method("p", do(ask(ME, "maa")))}]
        asking = [made for made in asking if unplain(cls(made)) is None]
        self.assertEqual(len(asking), 9)
        for at, one in enumerate(asking):
            for other in asking[:at]:
                self.check(cls(one), cls(other))

    def test_an_heir_is_asked_ahead_of_the_method_of_the_box(self):
        """The box has the method itself, and it is asked from outside, too."""
        one = cls({"m": method("p", do(ask(ME, "k", n("p"))), ret(f("x"))), "k": method("p", keep("x", n("p")))},
                  {"x": ("a", "b")})
        other = cls({"m": method("p", let("y", f("x")), do(ask(ME, "k", n("p"))), ret(n("y"))), "k": one[3]["k"]},
                    {"x": ("a", "b")})
        self.assertEqual(fewest_moves(one, other), 3)
        self.check(one, other)

    def test_many_methods_that_are_asked(self):
        names = ("ma", "mb", "mc", "md", "me"), ("ka", "kb", "kc", "kd", "ke")
        made = []
        for mine, other in (names, names[::-1]):
            made.append(cls({mine[at]: method("p q", do(ask(ME, other[at], n("q"), n("p")))) for at in range(5)}))
        self.check(*made)
        late = {name: method("p", let("x", ask(ME, f"z{name}")), keep("f", n("x"))) for name in names[0][:4]}
        tell = {"tell": method("p", do(ask(ME, "ztell")), ret(f("f")))}
        one = cls({**late, **tell}, {"f": ("a", "b")})
        other = cls({**late, "tell": method("p", do(ask(ME, "ztell")), cond(same(f("f"), B), (ret(NONE),)),
                                             ret(f("f")))}, {"f": ("a", "b")})
        self.assertEqual(fewest_moves(one, other), 4)
        self.check(one, other)

    def test_more_moves(self):
        for mark in ("open", "closed"):
            self.check(cls(TELL, {"x": ("a", "b")}, mark=mark), cls(EARLY, {"x": ("a", "b")}, mark=mark))
            for full in (1, 2, 3):
                self.check(doubling(1, full, "b", mark), doubling(1, full, "c", mark))
            self.check(plain_counter(3, 19, "b", mark), plain_counter(3, 19, "c", mark))

    def test_alike_classes(self):
        for one, other in both_marks(cls(TELL, {"x": ("a", "b")}), cls({**TELL, "no": method("", throw(w("nomethod")))},
                                                                     {"x": ("a", "b"), "y": ("c",)})):
            self.assertIsNone(telling(one, other))
            self.assertIsNone(telling(other, one))
            self.assertIsNone(telling(one, one))

    def test_chance(self):
        seen = {}
        for seed in range(6000, 6250):
            maker = PlainMaker(seed, size=3, calls=2)
            one = other = maker.cls()
            for _ in range(maker.chance.choice((1, 1, 2, 3))):
                other = maker.changed(other)
            try:
                fewest = fewest_moves(one, other, most=60)
            except TooMany:
                with self.assertRaises(TooMany):
                    telling(one, other, most=60)
                continue
            seen[fewest] = seen.get(fewest, 0) + 1
            with self.subTest((one, other)):
                if fewest is None:
                    self.assertIsNone(telling(one, other, most=60))
                else:
                    self.check(one, other)
        self.assertGreater(min(seen[fewest] for fewest in (None, 1, 2, 3)), 1, seen)


class Bounds(Checked):
    """[23]: a row of at most 20 moves, and no method of more than 30 statements."""

    def test_many_calls_within_one_another(self):
        for mark in ("open", "closed"):
            one, other = nested(19, "b", mark, 2), nested(19, "c", mark, 2)
            self.assertEqual(fewest_moves(one, other), 20)
            steps, calls = self.check(one, other)
            self.assertGreater(calls, 40)

    def test_asks_within_asks(self):
        """Of a closed class, four methods wait for each that was asked: the last one alone counts."""
        reset = (keep("x", w("a")), keep("y", w("a")))
        count = ("last", (*up(2), keep("z", w("a")), do(call(n("p")))), reset)
        chained = {"more": method("p", keep("z", B), do(ask(ME, "ka", n("p")))), "kc": method("p", self.at("d", count))}
        for name, low, high, more in (("ka", "b", "c", "kb"), ("kb", "c", "d", "kc")):
            chained[name] = method("p", self.at(low, keep("z", w(high)), do(ask(ME, more, n("p")))))
        made = []
        for word in ("b", "c"):
            get = method("", cond(holds(2, 15), (ret(w(word)),)))
            made.append(cls({**chained, "get": get}, fields(3), mark="closed"))
            self.assertIsNone(unplain(made[-1]))
        self.assertEqual(fewest_moves(*made), 16)
        steps, calls = self.check(*made)
        self.assertGreater(calls, 15 * 6)

    def at(self, word, *block):
        return cond(same(f("z"), w(word)), block, (keep("z", w("a")),))

    def test_calls_when_all_is_told(self):
        """What waits goes on when the last event is told, and calls and asks on and on."""
        for mark in ("open", "closed"):
            made = []
            for word in ("b", "c"):
                count = [cond(same(f("x"), w(low)), (keep("x", w(high)), do(call(n("p"))), ret(NONE)))
                         for low, high in ("cd", "bc", "ab")]
                many = [do(call(n("p"))) for _ in range(9)] + [do(ask(ME, "zz")) for _ in range(1)]
                tell = cond(same(f("x"), w("d")), (keep("x", w("a")), ret(w(word))))
                block = (tell, last(tuple(count), ()), last(tuple(many[:4]), tuple(many[4:])))
                made.append(cls({"more": method("p", *block)}, {"x": tuple("abcd")}, mark=mark))
                self.assertIsNone(unplain(made[-1]))
            self.check(*made)

    def test_more_than_20_moves(self):
        for mark in ("open", "closed"):
            for many in (nested, lambda *args: plain_counter(3, *args)):
                with self.assertRaises(TooLong) as caught:
                    telling(many(20, "b", mark), many(20, "c", mark))
                self.assertEqual(caught.exception.most, 20000)
            with self.assertRaises(TooLong):
                telling(doubling(3, 63, "b", mark), doubling(3, 63, "c", mark))

    def test_within_a_bound_below_the_moves(self):
        """The bound is that of alike, not one of the moves."""
        one, other = doubling(1, 3, "b"), doubling(1, 3, "c")
        self.assertEqual(fewest_moves(one, other, most=5), 15)
        self.assertIs(is_telling(one, other, telling(one, other, most=5)), True)
        with self.assertRaises(TooMany):
            telling(one, other, most=3)

    def test_runs_that_are_too_long(self):
        block = (let("x", A),) * 12
        for _ in range(3):
            block = (cond(same(A, A), block),) * 12
        one, other = cls({"m": method("", *block, ret(A))}), cls({"m": method("", *block, ret(B))})
        self.assertEqual(unplain(one), "class")
        one, other = cls({"m": method("", *block[:11], ret(A))}), cls({"m": method("", *block[:11], ret(B))})
        self.assertEqual(fewest_moves(one, other), 1)
        for first, second in ((one, cls({"m": method("", ret(B))})), (cls({"m": method("", ret(B))}), one)):
            with self.assertRaises(TooLong) as caught:
                telling(first, second)
            self.assertEqual(caught.exception.most, 20000)
        short = cls({"m": method("", *block[:10], ret(A))}), cls({"m": method("", *block[:10], ret(B))})
        self.assertIs(is_telling(*short, telling(*short)), True)

    def test_no_deep_calls(self):
        one, other = nested(19, "b", "closed", 2), nested(19, "c", "closed", 2)
        with limit_of_calls(80):
            self.assertIs(is_telling(one, other, telling(one, other)), True)


class Judged(unittest.TestCase):
    ONE = cls({"m": method("p", ret(A))})
    OTHER = cls({"m": method("p", ret(B))})
    SHOWN = (let("t", new("box")), let("r", ask(n("t"), "m")), show(n("r")))

    def program(self, *statements, **classes):
        return Program({"box": self.ONE, **classes}, statements)

    def judged(self, program):
        return is_telling(self.ONE, self.OTHER, program)

    def test_other_programs(self):
        self.assertIs(self.judged(self.program(*self.SHOWN)), True)
        self.assertIs(self.judged(self.program(say("a"), *self.SHOWN, throw(NONE))), True)
        heir = cls({"k": method("", ret(parent("m")))}, above="box")
        self.assertIs(self.judged(self.program(let("t", new("heir")), let("r", ask(n("t"), "k")), show(n("r")),
                                               heir=heir)), True)
        early = (*self.SHOWN[:2], cond(same(n("r"), A), (throw(A),)), say("b"))
        self.assertIs(self.judged(self.program(*early)), True)

    def test_programs_that_print_the_same(self):
        self.assertIs(self.judged(self.program()), False)
        self.assertIs(self.judged(self.program(*self.SHOWN[:2], say("a"))), False)
        self.assertIs(self.judged(self.program(*self.SHOWN[:2], throw(n("r")))), False)

    def test_another_class_as_box(self):
        self.assertIs(is_telling(self.OTHER, self.ONE, self.program(*self.SHOWN)), False)
        self.assertIs(self.judged(body(*self.SHOWN, box=self.OTHER)), False)
        self.assertIs(self.judged(body(let("t", new("other")), *self.SHOWN[1:], other=self.ONE)), False)
        self.assertIs(self.judged(body(*self.SHOWN, box=cls({**self.ONE[3], "k": method("")}))), False)

    def test_the_keys_in_another_order(self):
        one = cls({"m": method("", ret(A)), "k": method("", ret(A))}, {"x": ("a",), "y": ("b",)})
        other = cls({"m": method("", ret(B)), "k": method("", ret(A))}, {"x": ("a",), "y": ("b",)})
        turned = cls(dict(reversed(one[3].items())), dict(reversed(one[2].items())))
        self.assertIs(is_telling(one, other, body(*self.SHOWN, box=turned)), True)

    def test_runs_that_are_too_long(self):
        """Each of both runs takes 20000 steps at most."""
        slow = loop(YES, *self.SHOWN[2:])
        self.assertIs(self.judged(self.program(*self.SHOWN, slow)), False)
        for word in ("a", "b"):
            waits = cond(same(n("r"), w(word)), (slow,))
            self.assertIs(self.judged(self.program(*self.SHOWN, waits)), False)
        for steps, told in ((20000, True), (20001, False)):
            program = self.of_steps(steps)
            self.assertEqual(measured(program)[1], steps)
            self.assertIs(self.judged(program), told)

    def of_steps(self, steps):
        """A program with so many steps: each group of statements takes one more."""
        for many in range(steps * 9 // 10, steps):
            total, groups = many + 1, many
            while groups > 12:
                groups = -(-groups // 12)
                total += groups
            if total == steps:
                return self.program(*packed([*self.SHOWN, *[say("x")] * (many - 3)]))

    def test_runs_that_are_too_deep(self):
        for calls, told in ((200, True), (201, False)):
            program = Program({"box": self.ONE}, (*self.SHOWN, *packed(chain(calls, (say("deep"),)))))
            self.assertIs(self.judged(program), told)

    def test_any_value(self):
        for thing in ODD_VALUES + [Session(body()), (self.ONE, self.OTHER), "box", ["a"]]:
            self.assertIs(self.judged(thing), False)
        for thing in (body(), body(box=self.ONE)):
            self.assertIs(self.judged(thing), False)

    def test_classes_that_are_alike(self):
        self.assertIs(is_telling(self.ONE, self.ONE, self.program(*self.SHOWN)), False)


class Parts(unittest.TestCase):
    def program(self, *words):
        """Prints what a method of the class gives by turns, at last raises what it gives."""
        block = [say(word) for word in words]
        return Program({"c": cls({"m": method("", *block)}), "d": cls({}, above="c")},
                       (let("t", new("d")), do(ask(n("t"), "m"))))

    def other(self, *words, raises=None):
        more = () if raises is None else (throw(w(raises)),)
        return cls({"m": method("", *[say(word) for word in words], *more)})

    def check(self, mine, others, told):
        self.assertEqual(parts(self.program(*mine), "c", self.other(*others)), told)
        self.assertEqual(parts(self.program(*others), "c", self.other(*mine)), told)

    def test_lines(self):
        self.check("abc", "bbc", 0)
        self.check("abc", "acc", 1)
        self.check("abc", "aba", 2)
        self.check("abcd", "acca", 1)
        self.check("a", "bcd", 0)
        self.check("abd", "abcda", 2)
        self.check("", "", None)
        self.check("abc", "abc", None)

    def test_lines_that_end_sooner(self):
        self.check("abc", "ab", 2)
        self.check("abc", "", 0)
        self.check("abc", "a", 1)

    def test_unlike_ends(self):
        for words in ("", "a", "abc"):
            self.assertEqual(parts(self.program(*words), "c", self.other(*words, raises="e")), len(words))
        self.assertEqual(parts(self.program("a", "b"), "c", self.other("a", raises="e")), 1)
        self.assertEqual(parts(self.program("a", "b"), "c", self.other("a", "c", raises="e")), 1)
        raised = with_class(self.program("a"), "c", self.other("a", raises="e"))
        self.assertIsNone(parts(raised, "c", self.other("a", raises="e")))
        self.assertEqual(parts(raised, "c", self.other("a", raises="d")), 1)
        self.assertEqual(parts(raised, "c", self.other("a")), 1)

    def test_classes_that_are_not_plain(self):
        self.assertEqual(parts(self.program("a"), "d", cls({"m": method("", say("b"), do(new("c")))}, above="c")), 0)
        self.assertIsNone(parts(self.program("a"), "d", cls({"k": method("", say("b"))}, above="c")))

    def test_errors_in_their_order(self):
        program = self.program("a")
        endless = Program(program.classes, (loop(YES),))
        for name in ODD_VALUES + ["e", "m", "box", ("c",), ["c"]]:
            for each in (program, endless):
                with self.assertRaises(BadName) as caught:
                    parts(each, name, None)
                self.assertEqual(caught.exception.name, name)
        for wrong, part in ((None, "classes"), (cls({"m": method("", ret(NONE))}, mark="closed"), "classes"),
                            (cls({}, above="d"), "classes"), (cls({"m": method("", ("out",))}), "c.m"),
                            (cls({"k": method("", do(new("e")))}), "c.k")):
            for each in (program, endless):
                with self.assertRaises(BadProgram) as caught:
                    parts(each, "c", wrong)
                self.assertEqual(caught.exception.part, part)
        for wrong in ODD_VALUES:
            if wrong != (None, "open", {}, {}):
                with self.assertRaises(BadProgram):
                    parts(program, "c", wrong)
        for each, made in ((endless, self.other("a")), (program, cls({"m": method("", loop(YES))}))):
            with self.assertRaises(TooLong) as caught:
                parts(each, "c", made)
            self.assertEqual(caught.exception.most, 20000)

    def test_arguments_stay(self):
        program, other = self.program("a"), self.other("b")
        ahead = copy.deepcopy((program, other))
        parts(program, "c", other)
        self.assertEqual((program, other), ahead)


class Wrong(unittest.TestCase):
    PLAIN = cls({"m": method("")})
    CLOSED = cls({"m": method("")}, mark="closed")
    WRONG = [None, True, 0, "box", (), [], {}, deep("tuple"), deep("list"), deep("dict"), cls({}, {}, "top"), body(),
             cls({"m": method("", say("a"))}), (None, "open", {}), cls({"m": method("", do(ask(ME, "m")))})]

    def raises(self, error, attribute, value, function, *args, **more):
        with self.assertRaises(error) as caught:
            function(*args, **more)
        self.assertEqual(getattr(caught.exception, attribute), value)
        self.assertIs(type(getattr(caught.exception, attribute)), type(value))

    def test_classes_and_marks(self):
        for wrong in self.WRONG:
            self.raises(NotPlain, "cls", wrong, telling, wrong, None, most=0)
            self.raises(NotPlain, "cls", wrong, telling, self.CLOSED, wrong, most=None)
            self.raises(NotPlain, "cls", wrong, is_telling, wrong, "other", None)
            self.raises(NotPlain, "cls", wrong, is_telling, self.CLOSED, wrong, body())
        for one, other in ((self.PLAIN, self.CLOSED), (self.CLOSED, self.PLAIN)):
            self.raises(BadMark, "cls", other, telling, one, other, most=0)
            self.raises(BadMark, "cls", other, is_telling, one, other, body(box=one))

    def test_numbers(self):
        many = cls({"m": method("p", *[let(name, call(n("p"))) for name in "abcdefgh"])})
        for most in ODD_VALUES + [-1, 100001, 10 ** 30, "5", (5,)]:
            if most != 1 or isinstance(most, bool):
                self.raises(BadNumber, "number", most, telling, many, many, most=most)
        for most in (1, 2, 2000, 100000):
            self.assertIsNone(telling(self.PLAIN, self.PLAIN, most=most))
        with self.assertRaises(TypeError):
            telling(self.PLAIN, self.PLAIN, 2000)
        self.raises(TooMany, "most", 500, telling, many, many, most=500)

    def test_too_many_goes_ahead_of_too_long(self):
        counter = plain_counter(3, 63, "b"), plain_counter(3, 63, "c")
        self.raises(TooMany, "most", 63, telling, *counter, most=63)
        self.raises(TooLong, "most", 20000, telling, *counter, most=64)

    def test_arguments_stay(self):
        one, other = cls(TELL, {"x": ("a", "b")}), cls(EARLY, {"x": ("a", "b")})
        ahead = copy.deepcopy((one, other))
        program = telling(one, other)
        made = copy.deepcopy(program)
        is_telling(one, other, program)
        self.assertEqual((one, other), ahead)
        self.assertEqual(program, made)
        one[2]["y"] = ("c",)
        self.assertEqual(program, made)


if __name__ == "__main__":
    unittest.main()
