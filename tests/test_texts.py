"""[31]: programs and events as texts."""

import copy
import unittest

from shorthand import (ME, NONE, YES, ask, attempt, body, call, cls, cond, do, f, fn, keep, last, let, loop,
                       method, n, new, parent, put, ret, same, say, show, throw, w)
from standsfor.errors import BadEvent, NoText
from standsfor.plays import Play
from standsfor.programs import Program
from standsfor.reading import read_program
from standsfor.runs import run
from standsfor.texts import event_text, program_text
from test_general import ODD_VALUES, limit_of_calls
from test_reference import Maker

WORDS = """none me new parent fn not and or end else catch then let set keep do print return raise if while try last
class field method of""".split()
A = w("a")


def lines(*texts):
    return "".join(f"{text}\n" for text in texts)


class Checked(unittest.TestCase):
    def check(self, program, *texts):
        self.assertEqual(program_text(program), lines(*texts))
        self.assertEqual(read_program(lines(*texts)), program)

    def body(self, statements, *texts):
        """The body's lines, without their first blanks."""
        self.check(body(*statements), "body", *[f"  {text}" for text in texts])

    def method(self, block, *texts):
        made = cls({"m": (("p",), block)}, {"x": ("a", "b")}, above="c")
        self.check(body(c=cls(), d=made), "class c open", "class d open of c", "  field x a b", "  method m p",
                   *[f"    {text}" for text in texts], "  end", "body")


class Texts(Checked):
    def test_nothing(self):
        self.check(body(), "body")

    def test_simple_expressions(self):
        self.body([let("x", A), let("x", NONE), let("x", n("y")), let("x", w("none"))],
                  "let x 'a", "let x none", "let x y", "let x 'none")
        self.check(body(let("x", new("c")), show(new("c")), c=cls()), "class c open", "body", "  let x new c",
                   "  print new c")
        self.method((let("y", ME), let("y", f("x")), show(ME), show(f("x"))),
                    "let y me", "let y .x", "print me", "print .x")

    def test_calls(self):
        self.body([do(call(n("p"))), do(call(n("p"), A)), do(call(NONE, A, n("x"), NONE)), do(call(A, n("x"), n("y")))],
                  "do p()", "do p('a)", "do none('a, x, none)", "do 'a(x, y)")
        self.body([do(ask(n("p"), "m")), do(ask(n("p"), "m", A)), do(ask(A, "abcdefgh", NONE, NONE, A))],
                  "do p!m()", "do p!m('a)", "do 'a!abcdefgh(none, none, 'a)")
        self.method((do(parent("m")), do(parent("k", f("x"), ME, NONE)), do(ask(ME, "m")), do(call(f("x"), f("x"))),
                     do(ask(f("x"), "m", ME))),
                    "do parent!m()", "do parent!k(.x, me, none)", "do me!m()", "do .x(.x)", "do .x!m(me)")
        self.check(body(do(call(new("c"), new("c"))), do(ask(new("c"), "m", new("c"))), c=cls()), "class c open",
                   "body", "  do new c(new c)", "  do new c!m(new c)")

    def test_tests(self):
        one, other = same(n("x"), A), same(NONE, n("y"))
        self.body([loop(one), loop(("not", one)), loop(("both", one, other)), loop(("either", other, one))],
                  "while x = 'a", "end", "while not (x = 'a)", "end", "while (x = 'a and none = y)", "end",
                  "while (none = y or x = 'a)", "end")
        self.body([loop(("not", ("not", one))), loop(("both", ("either", one, other), ("not", other))),
                   loop(("either", one, ("both", other, other))), loop(("not", ("either", one, one)))],
                  "while not (not (x = 'a))", "end", "while ((x = 'a or none = y) and not (none = y))", "end",
                  "while (x = 'a or (none = y and none = y))", "end", "while not ((x = 'a or x = 'a))", "end")

    def test_statements(self):
        self.body([let("x", A), put("x", call(n("p"))), do(A), say("a"), throw(ask(n("x"), "m"))],
                  "let x 'a", "set x p()", "do 'a", "print 'a", "raise x!m()")
        self.method((keep("x", A), keep("x", parent("m")), ret(NONE), ret(call(n("p"))), throw(f("x"))),
                    "keep x 'a", "keep x parent!m()", "return none", "return p()", "raise .x")

    def test_blocks(self):
        self.body([cond(YES, ()), cond(YES, (say("a"),)), cond(YES, (), (say("b"),)),
                   cond(YES, (say("a"), say("b")), (say("c"), say("d")))],
                  "if none = none", "end", "if none = none", "  print 'a", "end", "if none = none", "else",
                  "  print 'b", "end", "if none = none", "  print 'a", "  print 'b", "else", "  print 'c", "  print 'd",
                  "end")
        self.body([loop(YES, say("a"))], "while none = none", "  print 'a", "end")
        self.body([attempt((), "e", ()), attempt((say("a"),), "e", (say("b"),))],
                  "try", "catch e", "end", "try", "  print 'a", "catch e", "  print 'b", "end")
        self.body([last((), ()), last((say("a"),), (say("b"),))],
                  "last", "then", "end", "last", "  print 'a", "then", "  print 'b", "end")
        self.body([cond(YES, (cond(YES, (), (loop(YES, attempt((last((), ()),), "e", ())),)),))],
                  "if none = none", "  if none = none", "  else", "    while none = none", "      try",
                  "        last", "        then", "        end", "      catch e", "      end", "    end", "  end", "end")

    def test_classes(self):
        given = body(c=cls(), a=cls({}, {}, "c", "closed"), b=cls({}, {"y": ("c", "a"), "x": ("me",)}),
                     d=cls({"k": method("q p"), "a": method("", ret(NONE))}, {"x": ("a", "b", "c", "d")}, "b"))
        self.check(given, "class a closed of c", "class b open", "  field x me", "  field y c a", "class c open",
                   "class d open of b", "  field x a b c d", "  method a", "    return none", "  end",
                   "  method k q p", "  end", "body")

    def test_fields_methods_and_classes_ascend_whatever_their_order(self):
        names = ["b", "ab", "a", "c", "abc"]
        texts = ["a", "ab", "abc", "b", "c"]
        made = cls({name: method("") for name in names}, {name: ("w",) for name in names[:3]})
        given = Program({name: made for name in names}, ())
        expected = []
        for name in texts:
            expected += [f"class {name} open", "  field a w", "  field ab w", "  field b w"]
            for inner in texts:
                expected += [f"  method {inner}", "  end"]
        self.check(given, *expected, "body")

    def test_words_of_the_language_that_are_words(self):
        for word in WORDS:
            self.body([say(word), let("x", w(word))], f"print '{word}", f"let x '{word}")
            self.check(body(c=cls({}, {"x": (word,)})), "class c open", f"  field x {word}", "body")

    def test_names_that_only_begin_like_words_of_the_language(self):
        for name in ("no", "nones", "mes", "news", "parents", "fns", "nots", "ands", "ends", "lets", "ifs", "body",
                     "open", "closed", "field" + "s", "o", "word"):
            made = cls({name: method(name, keep(name, f(name)), do(ask(n(name), name)))}, {name: (name,)})
            self.check(Program({name: made}, (let(name, new(name)), attempt((), name, (put(name, n(name)),)),
                                              let("x", fn(name)))),
                       f"class {name} open", f"  field {name} {name}", f"  method {name} {name}",
                       f"    keep {name} .{name}", f"    do {name}!{name}()", "  end", "body", f"  let {name} new {name}",
                       "  try", f"  catch {name}", f"    set {name} {name}", "  end", "  let x fn 0", f"  fn 0 {name}",
                       "  end")


class Functions(Checked):
    def test_one_behind_the_line(self):
        self.body([let("x", fn("a b", ret(n("a")))), say("a")],
                  "let x fn 0", "fn 0 a b", "  return a", "end", "print 'a")
        self.body([let("x", fn(""))], "let x fn 0", "fn 0", "end")
        self.body([let("x", fn("a b c"))], "let x fn 0", "fn 0 a b c", "end")

    def test_several_in_a_line(self):
        self.body([do(call(fn("a", say("a")), fn("b", say("b")), NONE, fn("c", say("c")))), show(fn(""))],
                  "do fn 0(fn 1, none, fn 2)", "fn 0 a", "  print 'a", "end", "fn 1 b", "  print 'b", "end", "fn 2 c",
                  "  print 'c", "end", "print fn 3", "fn 3", "end")
        self.body([do(ask(fn("a"), "m", fn("b")))], "do fn 0!m(fn 1)", "fn 0 a", "end", "fn 1 b", "end")

    def test_functions_in_functions(self):
        inner = fn("c", ret(fn("d")))
        self.body([let("x", fn("a", do(inner), do(fn("e")))), let("y", fn("f"))],
                  "let x fn 0", "fn 0 a", "  do fn 1", "  fn 1 c", "    return fn 2", "    fn 2 d", "    end", "  end",
                  "  do fn 3", "  fn 3 e", "  end", "end", "let y fn 4", "fn 4 f", "end")

    def test_the_numbers_go_line_by_line(self):
        one, other = fn("a", do(fn("c"))), fn("b", do(fn("d")))
        self.body([do(call(one, other))],
                  "do fn 0(fn 1)", "fn 0 a", "  do fn 2", "  fn 2 c", "  end", "end", "fn 1 b", "  do fn 3", "  fn 3 d",
                  "  end", "end")

    def test_in_tests(self):
        test = ("both", same(fn("a"), n("x")), ("not", same(A, fn("b"))))
        self.body([cond(test, (say("a"),), (say("b"),)), loop(same(fn(""), fn("")), say("a"))],
                  "if (fn 0 = x and not ('a = fn 1))", "fn 0 a", "end", "fn 1 b", "end", "  print 'a", "else",
                  "  print 'b", "end", "while fn 2 = fn 3", "fn 2", "end", "fn 3", "end", "  print 'a", "end")

    def test_deeper_ones(self):
        self.body([attempt((throw(fn("a", loop(YES, do(fn("b"))))),), "e", ())],
                  "try", "  raise fn 0", "  fn 0 a", "    while none = none", "      do fn 1", "      fn 1 b",
                  "      end", "    end", "  end", "catch e", "end")

    def test_through_all_classes(self):
        one = cls({"b": method("", do(fn("x"))), "a": method("", do(fn("y")))})
        other = cls({"k": method("", keep("x", fn("z", ret(ME))))}, {"x": ("a",)})
        self.check(body(do(fn("q")), d=one, c=other), "class c open", "  field x a", "  method k", "    keep x fn 0",
                   "    fn 0 z", "      return me", "    end", "  end", "class d open", "  method a", "    do fn 1",
                   "    fn 1 y", "    end", "  end", "  method b", "    do fn 2", "    fn 2 x", "    end", "  end",
                   "body", "  do fn 3", "  fn 3 q", "  end")

    def test_more_than_ten(self):
        text = program_text(body(*[do(call(fn(""), fn(""), fn(""), fn(""))) for _ in range(4)]))
        self.assertIn("  do fn 8(fn 9, fn 10, fn 11)\n  fn 8\n  end\n  fn 9\n  end\n  fn 10\n", text)
        self.assertEqual(program_text(read_program(text)), text)


class NoTexts(unittest.TestCase):
    def check(self, program, name):
        with self.assertRaises(NoText) as caught:
            program_text(program)
        self.assertEqual(caught.exception.name, name)

    def test_each_word_at_each_place(self):
        for word in WORDS:
            made = cls({"m": method("")}, {"x": ("a",)})
            inner = [body(let(word, A)), body(put(word, A)), body(show(n(word))), body(attempt((), word, ())),
                     body(let("x", fn(word))), body(let("x", fn(f"a b {word}"))), body(do(ask(NONE, word))),
                     body(do(call(A, n(word)))), body(do(call(n(word)))), body(do(ask(NONE, "m", n(word)))),
                     body(cond(("not", ("not", same(A, n(word)))), ())), body(let("x", fn("", do(fn("", show(n(word))))))),
                     Program({word: made}, ()), Program({word: cls(), "c": cls({}, above=word)}, ()),
                     Program({word: made}, (do(new(word)),)), body(c=cls({word: method("")})),
                     body(c=cls({}, {word: ("a",)})), body(c=cls({"m": method(word)})),
                     body(c=cls({"m": method("", keep(word, f(word)))}, {word: ("a",)})),
                     body(c=cls(), d=cls({"m": method("", do(parent(word)))}, above="c"))]
            for program in inner:
                with self.subTest(program.body):
                    self.check(program, word)

    def test_the_least_one(self):
        self.check(body(let("while", A), let("me", A), let("set", A)), "me")
        self.check(body(let("while", A), c=cls({"try": method("not", ret(n("of")))})), "not")
        self.check(Program({"or": cls(), "and": cls({}, {"class": ("and",)}, "or")}, ()), "and")
        self.check(body(say("and"), let("or", w("end"))), "or")

    def test_words_alone_are_no_names(self):
        program_text(body(say("none"), do(call(NONE, w("me"))), c=cls({}, {"x": ("new", "fn")})))


class Chance(unittest.TestCase):
    def test_programs_are_read_as_they_were_written(self):
        for seed in range(400):
            program = Maker(seed).program()
            text = program_text(program)
            self.assertTrue(text.endswith("\n"))
            made = read_program(text)
            self.assertEqual(made, program)
            self.assertEqual(program_text(made), text)

    def test_they_print_the_same(self):
        for seed in range(60):
            program = Maker(seed).program()
            try:
                told = run(program, most=300)
            except ValueError:
                continue
            self.assertEqual(run(read_program(program_text(program)), most=300), told)

    def test_the_program_stays(self):
        program = Maker(3).program()
        ahead = copy.deepcopy(program)
        program_text(program)
        self.assertEqual(program, ahead)

    def test_no_deep_calls(self):
        block = (do(fn("", say("a"))),)
        for at in range(6):
            block = (do(call(fn("a", *block), fn("b"))),) if at % 2 else (cond(YES, block, block),)
        program = body(*block)
        with limit_of_calls(80):
            self.assertEqual(read_program(program_text(program)), program)


class Events(unittest.TestCase):
    GOOD = {("gives", ("word", "a")): "gives 'a", ("throws", NONE): "throws none", ("gives", ME): "gives me",
            ("throws", ("other", 0)): "throws other 0", ("gives", ("word", "none")): "gives 'none",
            ("calls", 0, A, NONE): "calls 0 'a none", ("calls", 999999, ("other", 999999), ME):
            "calls 999999 other 999999 me", ("asks", "m", ("other", 3), A): "asks m other 3 'a",
            ("asks", "end", ME, ME): "asks end me me", ("gives", ("word", "abcdefgh")): "gives 'abcdefgh"}

    def test_events(self):
        for event, text in self.GOOD.items():
            self.assertEqual(event_text(event), text)

    def test_what_plays_show(self):
        one = cls({"m": method("p q", do(call(n("p"), n("q"), ME)), do(ask(ME, "k", A)), ret(n("q")))})
        play = Play(one, ["a", "b"])
        texts = [event_text(play.move(move)) for move in (("ask", "m", ("able",), ("unable",)), ("give", NONE),
                                                         ("throw", ("word", "b")))]
        self.assertEqual(texts, ["calls 0 other 1 me", "asks k 'a none", "throws 'b"])

    def test_no_events(self):
        wrong = [("gives",), ("gives", A, A), ("calls", 0, A), ("calls", 0, A, A, A), ("asks", "m", A),
                 ("asks", "m", A, A, A), ("calls", "m", A, A), ("asks", 0, A, A), ("Gives", A), ("give", A),
                 ("calls", -1, A, A), ("calls", 1000000, A, A), ("calls", True, A, A), ("calls", False, A, A),
                 ("calls", None, A, A), ("calls", 1.0, A, A), ("calls", (0,), A, A), ["gives", A], ("gives", ["word", "a"]),
                 ("gives", ("word",)), ("gives", ("word", "A")), ("gives", ("word", "abcdefghi")), ("gives", ("word", 5)),
                 ("gives", ("word", "a", "b")), ("gives", ("none", "none")), ("gives", ("me", 0)), ("gives", ()),
                 ("gives", ("other",)), ("gives", ("other", -1)), ("gives", ("other", 1000000)),
                 ("gives", ("other", True)), ("gives", ("other", False)), ("gives", ("other", "0")),
                 ("gives", ("other", 0, 0)), ("gives", ("able",)), ("gives", ("able", 0)), ("gives", ("unable", 0)),
                 ("gives", "none"), ("gives", None), ("asks", "M", A, A), ("asks", "", A, A), ("asks", ("m",), A, A),
                 ("calls", 0, A, ("able",)), ("calls", 0, ("able",), A), ("asks", "m", A, 5), "gives", (A, A),
                 (("gives",), A), ([], A), ({}, A), (None, A)]
        for event in wrong + ODD_VALUES + [body()]:
            with self.subTest(event), self.assertRaises(BadEvent) as caught:
                event_text(event)
            self.assertEqual(caught.exception.event, event)
            self.assertIs(type(caught.exception.event), type(event))
        for odd in ODD_VALUES:
            is_number = odd in (0, 1) and not isinstance(odd, bool)
            for event, good in (((odd, A), False), (("gives", odd), False), (("calls", odd, A, A), is_number),
                                (("asks", odd, A, A), False), (("calls", 0, odd, A), False),
                                (("gives", ("word", odd)), False), (("gives", ("other", odd)), is_number),
                                (("gives", (odd, "a")), False), (("gives", (odd,)), False)):
                with self.subTest(event):
                    if good:
                        event_text(event)
                    else:
                        self.assertRaises(BadEvent, event_text, event)


if __name__ == "__main__":
    unittest.main()
