"""[31]: programs out of texts, and the lines that are wrong."""

import random
import unittest

from shorthand import NONE, body, cls, cond, do, fn, let, same, say, w
from standsfor.errors import BadProgram, BadText
from standsfor.programs import Program
from standsfor.reading import read_program
from standsfor.runs import run
from standsfor.texts import program_text
from test_general import ODD_VALUES, limit_of_calls
from test_reference import Maker
from textref import WORDS, bad_line

LINES = [
    "class box open",                    # 0
    "  field x a none",
    "  field y b",
    "  method get",
    "    return .x",
    "  end",                             # 5
    "  method put p",
    "    try",
    "      keep x p",
    "    catch e",
    "      if not ((e = 'badword or .y = e))",       # 10
    "        raise e",
    "      else",
    "        keep y 'b",
    "      end",
    "    end",                           # 15
    "  end",
    "class heir closed of box",
    "  method get q r s",
    "    let x parent!get(q, r, s)",
    "    return x",                      # 20
    "  end",
    "body",
    "  let t new heir",
    "  do fn 0(fn 1, t)",
    "  fn 0 f t",                        # 25
    "    let r t!get()",
    "    print r",
    "    do fn 2",
    "    fn 2",
    "    end",                           # 30
    "    do f()",
    "  end",
    "  fn 1",
    "    last",
    "      do t!put('none)",             # 35
    "    then",
    "      while (fn 3 = none and none = none)",
    "      fn 3 a b c",
    "        return none",
    "      end",                         # 40
    "        print 'no",
    "      end",
    "    end",
    "  end",
    "  let r t!get(none, me)",           # 45
    "  print r",
]
LINES[45] = "  let r t!get(none, 'me)"


def text(lines):
    return "".join(f"{line}\n" for line in lines)


class Told(unittest.TestCase):
    def bad(self, given, line):
        self.assertEqual(bad_line(given), line, given)
        with self.assertRaises(BadText) as caught:
            read_program(given)
        self.assertEqual(caught.exception.line, line, given)
        self.assertIs(type(caught.exception.line), int)

    def changed(self, at, *lines):
        """The lines with these in the place of the one at this index."""
        return text(LINES[:at] + list(lines) + LINES[at + 1:])


class Good(Told):
    def test_the_program(self):
        program = read_program(text(LINES))
        self.assertIsInstance(program, Program)
        self.assertEqual(program_text(program), text(LINES))
        self.assertEqual(run(program), (["a", "none"], ("done",)))
        self.assertEqual(program.classes["heir"][:3], ("box", "closed", {}))
        self.assertEqual(program.classes["box"][2], {"x": ("a", "none"), "y": ("b",)})

    def test_small_ones(self):
        self.assertEqual(read_program("body\n"), body())
        self.assertEqual(read_program("class c open\nbody\n"), body(c=cls()))
        self.assertEqual(read_program("body\n  print 'a\n"), body(say("a")))
        self.assertEqual(read_program("body\n  let body 'body\n"), body(let("body", w("body"))))


class Lines(Told):
    def test_each_line_left_out_twice_or_changed(self):
        """Whatever is told, the second way to judge texts tells it, too."""
        for at, line in enumerate(LINES):
            for lines in ((), (line, line), ("",), (f" {line}",), (f"  {line}",), (line[1:],), (line[2:],),
                          (f"{line} ",), (f"{line}\t",), (line.replace(" ", "  "),), (line.upper(),), ("end",),
                          (line.replace(" ", "\t"),), (f"{line}\r",), (f"{line} x",), (line[:-1],), ("\x0c",)):
                given = self.changed(at, *lines)
                told = bad_line(given)
                with self.subTest(given):
                    if told is not None:
                        self.bad(given, told)
                    elif given != text(LINES):
                        try:
                            self.assertEqual(program_text(read_program(given)), given)
                        except BadProgram:
                            pass

    def test_blanks(self):
        for at in range(len(LINES)):
            for line in (f" {LINES[at]}", f"{LINES[at]} ", f"  {LINES[at]}", f"\t{LINES[at]}", LINES[at] + "\r"):
                self.bad(self.changed(at, line), at)
            if LINES[at].startswith(" "):
                self.bad(self.changed(at, LINES[at][1:]), at)
                self.bad(self.changed(at, "\t" + LINES[at][1:]), at)
            for place, sign in enumerate(LINES[at]):
                if sign == " ":
                    self.bad(self.changed(at, LINES[at][:place] + " " + LINES[at][place:]), at)
                    less = self.changed(at, LINES[at][:place] + LINES[at][place + 1:])
                    if bad_line(less) is not None:
                        self.bad(less, bad_line(less))
            self.bad(self.changed(at, ""), at)
            self.bad(text(LINES[:at] + [""] + LINES[at:]), at)
        self.bad("\n" + text(LINES), 0)
        self.bad(text(LINES) + "\n", len(LINES))

    def test_lines_of_the_body(self):
        """For each form of a line, wrong ones."""
        wrong = """
let x
let x y z
let 'x y
let x  y
let end y
let X y
let x Y
let abcdefghi y
let x abcdefghi
let x 'abcdefghi
let x '
let x 'A
let x 'a1
let x .
let x .end
let x me!
let x me!end()
let x new
let x new 'c
let x new end
let x new c d
let x newc d
let x fn
let x fn x
let x fn 1
let x fn 00
let x fn -1
let x fn  0
let x fn0
let x y(
let x y)
let x y()()
let x y(a,b)
let x y(a , b)
let x y(a, b, c, d)
let x y(a, )
let x y(, a)
let x y( )
let x y(a(b))
let x y!m
let x y!m(a, b, c, d)
let x y!m!k()
let x y.m()
let x y !m()
let x y (a)
let x parent
let x parent!m
let x parent!end()
let x parent!m(a, b, c, d)
let x parent!parent!m()
let x parent(a)
let x 'a b
let x none none
let x nonee!fn()
set x
set 'x y
set end y
keep .x y
keep x
keep end y
do
do x y
do do x
do end
do (x)
print
print x y
print x()
print x!m()
print parent!m()
print end
return
return x y
return end
raise
raise x y
if
if x
if x = y z
if x=y
if x  = y
if x = y = z
if (x = y)
if not x = y
if not(x = y)
if not (x = y
if not (x = y))
if not  (x = y)
if x = y and x = y
if (x = y and x = y
if (x = y and x = y and x = y)
if (x = y or)
if (x = y nor x = y)
if (x = y  and x = y)
if (x = y orx = y)
if x() = y
if x = y()
if x = y!m()
if not (not (not (x = y)))
if (x = y and (x = y and (x = y and x = y)))
if not ((x = y or not (x = y)))
if (not ((x = y or x = y)) and x = y)
if not (not (not ()))
if (x = y and (x = y and ( and )))
if ()
if not ()
if end = x
if x = end
while
while x
while true
while not (not ((x = y and x = y)))
try x
try
last x
last
end
else
then
catch x
catch
fn 0
fn 0 x
body
class c open
field x a
method m
lets x y
letx y
x
'x
x()
let
Let x y
"""
        for line in wrong.strip("\n").split("\n"):
            with self.subTest(line):
                if line in ("try", "last"):
                    self.bad(f"body\n  {line}\n", 2)
                    self.bad(f"body\n  {line}\n  end\n", 2)
                else:
                    self.bad(f"body\n  print 'a\n  {line}\n  print 'a\n", 2)
                    self.bad(f"body\n  print 'a\n  {line}\n  end\n", 2)
                    self.bad(f"body\n  print 'a\n  {line}", 2)

    def test_lines_of_classes(self):
        wrong = ["class", "class c", "class c opened", "class c Open", "class c half", "class C open", "class end open",
                 "class c open of", "class c open of end", "class c open of d e", "class c open d", "class c of d open",
                 "class c  open", "class abcdefghi open", "classc open", "class c open of  d", "Class c open",
                 " class c open", "class c openof d", "class 'c open", "class c open ", "fields", "bodys", "Body", "body ",
                 " body", "end", "print 'a", "method m", "field x a", "  field x a", "  method m", "", "  end"]
        for line in wrong:
            with self.subTest(line):
                self.bad(f"{line}\nbody\n", 0)
                self.bad(line, 0)
        wrong = ["  field", "  field ", "  field x  a", "  field x a ", "  field x A", "  field x 'a", "  field end a",
                 "  field abcdefghi a", "  field x abcdefghi", " field x a", "field x a", "   field x a", "  fieldx a",
                 "  method", "  method ", "  method end", "  method m p q r s", "  method m end", "  method m  p",
                 "  method m p ", "  method M", "  method m 'p", "  method m abcdefghi", "method m", "   method m",
                 "  Method m", "    print 'a", "  print 'a", "  let x y", "  end", "end", "  fn 0", "  keep x 'a",
                 "  return none", "class c open", "class b open", "  body"]
        for line in wrong:
            with self.subTest(line):
                self.bad(f"class c open\n{line}\n  end\nbody\n", 1)
                self.bad(f"class c open\n  field aa a\n{line}\n  end\nbody\n", 2)
                self.bad(f"class c open\n  method aa\n  end\n{line}\n  end\nbody\n", 3)

    def test_the_order_of_classes_fields_and_methods(self):
        for names, line in ((("a", "b", "c"), None), (("b", "a"), 1), (("a", "a"), 1), (("a", "c", "b"), 2),
                            (("a", "ab", "b"), None), (("ab", "a"), 1), (("a", "b", "ab", "c"), 2)):
            for given, first in ((text([f"class {name} open" for name in names] + ["body"]), 0),
                                 (text(["class c open"] + [f"  field {name} w" for name in names] + ["body"]), 1)):
                if line is None:
                    self.assertEqual(program_text(read_program(given)), given)
                else:
                    self.bad(given, first + line)
            methods = [line for name in names for line in (f"  method {name}", "  end")]
            given = text(["class c open", *methods, "body"])
            if line is None:
                self.assertEqual(program_text(read_program(given)), given)
            else:
                self.bad(given, 1 + 2 * line)
        self.bad("class c open\n  method a\n  end\n  field b w\nbody\n", 3)
        self.bad("class c open\n  field a w\n  method a\n  end\n  field b w\nbody\n", 4)
        # Each class has its own ones.
        given = "class a open\n  field b w\n  method b\n  end\nclass b open\n  field a w\n  method a\n  end\nbody\n"
        self.assertEqual(program_text(read_program(given)), given)

    def test_names_that_are_words_of_the_language(self):
        for word in WORDS:
            for line in (f"let {word} 'a", f"set {word} 'a", f"print {word}x({word})", f"do {word}()", f"do x({word})",
                         f"do x!{word}()", f"do new {word}", f"do parent!{word}()", f"keep {word} 'a", f"do .{word}"):
                if word not in ("none", "me") or line not in (f"do {word}()", f"do x({word})"):
                    self.bad(f"body\n  {line}\n", 1)
            self.bad(f"class {word} open\nbody\n", 0)
            self.bad(f"class c open of {word}\nbody\n", 0)
            self.bad(f"class c open\n  field {word} a\nbody\n", 1)
            self.bad(f"class c open\n  method {word}\n  end\nbody\n", 1)
            self.bad(f"class c open\n  method m {word}\n  end\nbody\n", 1)
            self.bad(f"body\n  try\n  catch {word}\n  end\n", 2)
            self.bad(f"body\n  do fn 0\n  fn 0 {word}\n  end\n", 2)
            given = f"class c open\n  field x {word}\nbody\n  print '{word}\n"
            self.assertEqual(program_text(read_program(given)), given)


class Places(Told):
    def test_what_stands_between_blocks(self):
        for opener, between, ended in (("if none = none", "else", True), ("while none = none", None, True),
                                       ("try", "catch e", False), ("last", "then", False)):
            for line in ("else", "catch e", "then", "end"):
                for inner in ([], ["    print 'a"]):
                    given = text(["body", f"  {opener}", *inner, f"  {line}", "    print 'b", "  end"])
                    if line == between:
                        self.assertEqual(program_text(read_program(given)), given)
                        twice = text(["body", f"  {opener}", *inner, f"  {line}", "    print 'b", f"  {line}", "  end"])
                        self.bad(twice, 4 + len(inner))
                    elif line == "end" and ended:
                        self.bad(given, 3 + len(inner))
                    else:
                        self.bad(given, 2 + len(inner))

    def test_an_end_straight_behind_else(self):
        self.bad("body\n  if none = none\n  else\n  end\n", 3)
        self.bad("body\n  if none = none\n    print 'a\n  else\n  end\n", 4)
        for behind in ("then", "catch e"):
            opener = "last" if behind == "then" else "try"
            given = f"body\n  {opener}\n  {behind}\n  end\n"
            self.assertEqual(program_text(read_program(given)), given)

    def test_ends(self):
        self.bad("body\nend\n", 1)
        self.bad("body\n  end\n", 1)
        self.bad("class c open\nend\nbody\n", 1)
        self.bad("class c open\n  method m\n  end\n  end\nbody\n", 3)
        self.bad("class c open\n  method m\nend\nbody\n", 2)
        self.bad("class c open\n  method m\n    end\n  end\nbody\n", 2)
        self.bad("class c open\n  method m\nbody\n", 2)
        self.bad("class c open\n  method m\n  method n\n  end\nbody\n", 2)
        self.bad("body\n  while none = none\n    end\n", 2)
        self.bad("body\n  while none = none\nend\n", 2)
        self.bad("body\n  while none = none\n  print 'a\n  end\n", 2)
        self.bad("body\n  while none = none\n      print 'a\n  end\n", 2)

    def test_behind_the_body(self):
        for line in ("class c open", "body", "end", "  field x a", "  method m", "print 'a"):
            self.bad(f"body\n{line}\n", 1)
            self.bad(f"body\n  print 'a\n{line}\n", 2)

    def test_functions(self):
        good = "body\n  do fn 0(fn 1)\n  fn 0 a\n    do fn 2\n    fn 2\n    end\n  end\n  fn 1 b\n  end\n  do fn 3\n" \
               "  fn 3\n  end\n"
        self.assertEqual(program_text(read_program(good)), good)
        for old, more, line in (("fn 0 a", "fn 1 a", 2), ("fn 0 a", "fn 0 a b c d", 2), ("    fn 2\n", "    fn 3\n", 4),
                                ("do fn 2", "do fn 1", 3), ("do fn 2", "do fn 3", 3), ("fn 1 b", "fn 2 b", 7),
                                ("do fn 3", "do fn 4", 9), ("do fn 0(fn 1)", "do fn 1(fn 0)", 1),
                                ("do fn 0(fn 1)", "do fn 0(fn 0)", 1), ("do fn 0(fn 1)", "do fn 0", 3),
                                ("  fn 0 a", "    fn 0 a", 2), ("  fn 0 a", "fn 0 a", 2), ("fn 0 a", "fn 00 a", 2),
                                ("fn 1 b", "print 'a", 7), ("do fn 0(fn 1)", "do fn 0(fn 1, fn 2)", 3),
                                ("fn 0 a", "fn 0 end", 2), ("fn 0 a", "fn 0  a", 2), ("fn 0 a", "fn 0a", 2)):
            self.bad(good.replace(old, more, 1), line)
        self.bad("body\n  do fn 0\n  print 'a\n", 2)
        self.bad("body\n  do fn 0\n  do fn 1\n", 2)
        self.bad("body\n  do fn 0\n", 2)
        self.bad("body\n  fn 0\n  end\n", 1)
        self.bad("body\n  if fn 0 = none\n    print 'a\n  fn 0\n  end\n  end\n", 2)
        self.bad("body\n  if fn 0 = none\n  end\n", 2)
        self.bad("body\n  if fn 0 = none\n  else\n", 2)
        self.bad("body\n  while none = none\n    do fn 0\n  end\n", 3)
        given = "body\n  if fn 0 = none\n  fn 0\n  end\n    print 'a\n  end\n"
        self.assertEqual(read_program(given), body(cond(same(fn(""), NONE), (say("a"),))))

    def test_numbers_go_on_from_class_to_class(self):
        good = "class a open\n  method m\n    do fn 0\n    fn 0\n    end\n  end\nclass b open\n  method m\n    do fn 1\n" \
               "    fn 1\n    end\n  end\nbody\n  do fn 2\n  fn 2\n  end\n"
        self.assertEqual(program_text(read_program(good)), good)
        self.bad(good.replace("fn 1", "fn 0"), 8)
        self.bad(good.replace("fn 2", "fn 0"), 13)

    def deep(self, blocks, line, opener="while none = none"):
        """A text with so many blocks in the body's, and this line in the innermost one."""
        lines = ["body"] + ["  " * at + opener for at in range(1, blocks + 1)] + ["  " * (blocks + 1) + line]
        return lines, [lines[at].split("w")[0] + "end" for at in range(blocks, 0, -1)]

    def test_blocks_more_than_8_deep(self):
        for line, more in (("while none = none", ["end"]), ("if none = none", ["end"]), ("try", ["catch e", "end"]),
                           ("last", ["then", "end"]), ("do fn 0", ["fn 0", "end"]), ("print fn 0", ["fn 0", "end"]),
                           ("let x y(fn 0)", ["fn 0", "end"])):
            for blocks, told in ((6, None), (7, 8)):
                lines, ends = self.deep(blocks, line)
                given = text(lines + ["  " * (blocks + 1) + inner for inner in more] + ends)
                if told is None:
                    self.assertEqual(program_text(read_program(given)), given)
                else:
                    self.bad(given, told)
                    self.bad(text(lines), told)
        lines, ends = self.deep(7, "print 'a")
        self.assertEqual(program_text(read_program(text(lines + ends))), text(lines + ends))

    def test_functions_more_than_8_deep(self):
        """It is told at the line in which the function stands, ahead of the function's own line."""
        block, texts = (), []
        for at in range(7):
            texts += ["  " * at + f"do fn {at}", "  " * at + f"fn {at}"]
        ends = ["  " * at + "end" for at in range(6, -1, -1)]
        good = text(["body", *[f"  {line}" for line in texts + ends]])
        for _ in range(7):
            block = (do(fn("", *block)),)
        self.assertEqual(read_program(good), body(*block))
        more = ["  " * 7 + "do fn 7", "  " * 7 + "nothing"]
        self.bad(text(["body", *[f"  {line}" for line in texts + more + ends]]), 15)
        more = ["  " * 7 + "while none = fn 7", "  " * 7 + "fn 7", "  " * 7 + "end", "  " * 7 + "end"]
        self.bad(text(["body", *[f"  {line}" for line in texts + more + ends]]), 15)
        more = ["  " * 7 + "print 'a"]
        self.assertEqual(bad_line(text(["body", *[f"  {line}" for line in texts + more + ends]])), None)

    def test_blocks_in_methods(self):
        ahead = ["class c open", "  method m"] + ["  " * at + "last" for at in range(2, 9)]
        ends = [line for at in range(8, 1, -1) for line in ("  " * at + "then", "  " * at + "end")]
        good = text(ahead + ends + ["  end", "body"])
        self.assertEqual(program_text(read_program(good)), good)
        self.bad(text(ahead + ["  " * 9 + "last", "  " * 9 + "then", "  " * 9 + "end"] + ends + ["  end", "body"]), 9)


class Ends(Told):
    def test_no_strings(self):
        for thing in ODD_VALUES + [b"body\n", ["body"], ("body\n",), body(), 5]:
            if not isinstance(thing, str):
                with self.subTest(thing), self.assertRaises(BadText) as caught:
                    read_program(thing)
                self.assertEqual(caught.exception.line, -1)
                self.assertIs(type(caught.exception.line), int)

    def test_texts_that_are_cut(self):
        whole = text(LINES)
        for at in range(len(LINES)):
            cut = text(LINES[:at])
            told = bad_line(cut)
            if told is None:
                self.assertGreater(at, 22)
                read_program(cut)
            else:
                self.assertEqual(told, at)
                self.bad(cut, at)
            # A line that is not closed is not looked at.
            self.bad(cut + LINES[at], at)
            self.bad(cut + LINES[at][:3] + "?", at)
        self.bad(whole[:-1], len(LINES) - 1)

    def test_what_goes_on_behind_the_end(self):
        whole = text(LINES)
        for more in (" ", "  print 'a", "\t", "end", "\r", "?", "  if none = none"):
            self.bad(whole + more, len(LINES))
        self.bad(whole + whole, len(LINES))
        self.bad("", 0)
        self.bad("body", 0)
        self.bad("class c open\n", 1)
        self.bad("body\n  try\n", 2)
        self.bad("body\n  try\n  catch e\n", 3)

    def test_which_of_several_is_told(self):
        self.bad("body\n  print\n  print\n", 1)
        self.bad("body\n  print 'a\n  prin 'a\n  while none = none\n", 2)
        self.bad("body\n  while none = none\n  prin 'a", 2)
        self.bad("class b open\nclass a open\nbody\n  return none\n", 1)
        self.bad("class c open\n  field a a a\n  field b\nbodi\n", 3)

    def test_whole_lines_go_ahead_of_programs(self):
        self.bad("class c open of d\nbody\n  return me\n  end\n", 3)
        self.bad("class c open of d\nbody\n  return me\n  x", 3)


class Programs(unittest.TestCase):
    def check(self, given, part):
        self.assertIsNone(bad_line(given))
        with self.assertRaises(BadProgram) as caught:
            read_program(given)
        self.assertEqual(caught.exception.part, part)

    def test_what_is_asked_by_program(self):
        for line in ("return none", "print me", "print .x", "keep x 'a", "do parent!m()", "do new d", "return 'a",
                     "do x(.y)", "do x(fn 0)\n  fn 0\n    print me\n  end", "do fn 0\n  fn 0 x x\n  end"):
            self.check(f"class c open\n  field x a\nbody\n  {line}\n", "body")
        for line in ("print .y", "keep y 'a", "do parent!m()", "do new d", "do new ends",
                     "do fn 0\n    fn 0 a b a\n    end"):
            self.check(f"class c open\n  field x a\n  method k\n  end\n  method m\n    {line}\n  end\nbody\n", "c.m")
        for line in ("  field x", "  field x a a", "  field x a b c d e", "  method m x x\n  end"):
            self.check(f"class c open\n{line}\nbody\n", "classes")
        for line in ("class d open of e", "class d open of d", "class d open of c"):
            self.check(f"class c closed\n{line}\nbody\n", "classes")
        self.check("class c open of d\nclass d open of c\nbody\n", "classes")

    def test_how_many_there_are(self):
        many = "abcdefghijklmno"
        self.check("body\n" + "  print 'a\n" * 13, "body")
        self.assertEqual(read_program("body\n" + "  print 'a\n" * 12), body(*[say("a")] * 12))
        self.check("body\n  while none = none\n" + "    print 'a\n" * 13 + "  end\n", "body")
        self.check("class c open\n  method m\n" + "    print 'a\n" * 13 + "  end\nbody\n", "c.m")
        for count, given in ((3, "class c open\n{}body\n"), (5, "class c open\n{}body\n"), (8, "{}body\n")):
            line = {3: "  field {} w\n", 5: "  method {}\n  end\n", 8: "class {} open\n"}[count]
            read_program(given.format("".join(line.format(name) for name in many[:count])))
            self.check(given.format("".join(line.format(name) for name in many[:count + 1])), "classes")

    def test_the_first_part_is_told(self):
        given = "class b open\n  method m\n    do new x\n  end\n  method k\n    do new x\n  end\nbody\n  return me\n"
        with self.assertRaises(BadText):
            read_program(given)
        given = "class a open\n  method m\n    do new x\n  end\nclass b open\n  method k\n    do new x\n  end\n" \
                "body\n  return me\n"
        self.check(given, "a.m")

    def test_the_same_as_program_tells(self):
        """A new thing of no class, written as one of a class that is left out then."""
        chance = random.Random(4)
        seen = {}
        for seed in range(150):
            program = Maker(seed).program()
            classes = program.classes
            name = chance.choice(sorted(classes))
            given = program_text(program).replace(f"new {name}", "new nothi")
            try:
                made = read_program(given)
                self.assertEqual(made, program)
            except BadProgram as error:
                told = error.part
                with self.assertRaises(BadProgram) as caught:
                    Program(renamed(classes, name), renamed(program.body, name))
                self.assertEqual(caught.exception.part, told)
                seen[told] = seen.get(told, 0) + 1
        self.assertGreater(len(seen), 3, seen)


def renamed(part, name):
    """All new things of this class turned to ones of a class that is not there."""
    if part == ("new", name):
        return ("new", "nothi")
    if isinstance(part, tuple):
        return tuple(renamed(inner, name) for inner in part)
    return {key: renamed(inner, name) for key, inner in part.items()} if isinstance(part, dict) else part


class Chance(unittest.TestCase):
    SIGNS = " abz'.!(),=\tAe0129"
    MORE = ("", " ", "end", "  end", "    end", "  else", "body", "class c open", "  then", "  catch x", "  try",
            "  last", "fn 0", "  field q a", "  method q x")
    PARTS = ("end", "none", "me", "x", "abcdefghi", "not", "(a", "=", "fn", "0", "1", "new", "'me", "parent!m()", "open",
             "closed", "of")

    def test_texts_that_are_changed(self):
        seen = {"bad": 0, "good": 0, "program": 0}
        for seed in range(420):
            chance = random.Random(seed)
            given = program_text(Maker(seed).program())
            for _ in range(8):
                changed = self.changed(chance, given)
                with self.subTest(changed):
                    seen[self.kind(changed, bad_line(changed))] += 1
        self.assertGreater(min(seen.values()), 15, seen)

    def kind(self, changed, line):
        try:
            self.assertEqual(program_text(read_program(changed)), changed)
            kind = "good"
        except BadText as error:
            self.assertEqual(error.line, line)
            return "bad"
        except BadProgram:
            kind = "program"
        self.assertIsNone(line)
        return kind

    def changed(self, chance, given):
        lines = given.split("\n")
        for _ in range(chance.choice((1, 1, 1, 2))):
            kind = chance.choice(("less", "twice", "move", "sign", "sign", "sign", "blanks", "cut", "more", "part", "part"))
            at = chance.randrange(len(lines))
            line = lines[at]
            if kind == "less":
                lines[at:at + 1] = []
            elif kind == "twice":
                lines.insert(at, line)
            elif kind == "move":
                lines.insert(chance.randrange(len(lines) + 1), lines.pop(at))
            elif kind == "sign":
                to, sign = chance.randrange(len(line) + 1), chance.choice(self.SIGNS)
                lines[at] = chance.choice((line[:to] + sign + line[to:], line[:to] + line[to + 1:],
                                           line[:to] + sign + line[to + 1:]))
            elif kind == "blanks":
                lines[at] = chance.choice((" " + line, "  " + line, "    " + line, line[1:], line[2:]))
            elif kind == "cut":
                whole = "\n".join(lines)
                lines = whole[:chance.randrange(len(whole) + 1)].split("\n")
            elif kind == "more":
                lines.insert(at, chance.choice(self.MORE))
            else:
                parts = line.split(" ")
                parts[chance.randrange(len(parts))] = chance.choice(self.PARTS)
                lines[at] = " ".join(parts)
            lines = lines or [""]
        return "\n".join(lines)

    def test_long_texts(self):
        many = 20000
        for given, line in (("body\n" + "  print 'a\n" * many + "x\n", many + 1),
                            ("class c open\n" + "  field a b\n" * many, 2),
                            ("body\n  if " + "not (" * many + "\n", 1), ("body\n  do x(" + "a, " * many + "a)\n", 1),
                            ("body\n  " + "a" * many + "\n", 1), (" " * many, 0), ("\n" * many, 0),
                            ("body\n  do fn " + "0" * many + "\n", 1), ("body\n  if " + "(" * many + "a = a\n", 1)):
            with limit_of_calls(60), self.assertRaises(BadText) as caught:
                read_program(given)
            self.assertEqual(caught.exception.line, line)

    def test_signs_beyond_ascii(self):
        for sign in ("\u00e4", "\u0430", "\u00b2", "\u0661", "\u00a0", "\u2028", "\x85", "\x0b", "\x1c", "\ud800"):
            for given in (f"body\n  print '{sign}\n", f"body\n  print {sign}\n", f"body\n  do fn {sign}\n",
                          f"body\n{sign}{sign}print 'a\n", f"body\n  print 'a{sign}\n", f"body{sign}\n",
                          f"body\n  do fn 0{sign}\n", f"body\n  let x{sign} 'a\n"):
                with self.subTest(given), self.assertRaises(BadText) as caught:
                    read_program(given)
                self.assertEqual(caught.exception.line, 0 if given.startswith("body" + sign) else 1)


if __name__ == "__main__":
    unittest.main()
