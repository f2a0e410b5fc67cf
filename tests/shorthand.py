"""Short names for the parts of programs, for the tests."""

from standsfor.programs import Program

NONE = ("none",)
ME = ("me",)


def w(word):
    return ("word", word)


def n(name):
    return ("name", name)


def f(field):
    return ("field", field)


def fn(params, *block):
    return ("fn", tuple(params.split()), block)


def new(cls):
    return ("new", cls)


def call(s, *things):
    return ("call", s, things)


def ask(s, method, *things):
    return ("ask", s, method, things)


def parent(method, *things):
    return ("parent", method, things)


def same(one, other):
    return ("same", one, other)


YES = same(NONE, NONE)
NO = ("not", YES)


def let(name, right):
    return ("let", name, right)


def put(name, right):
    return ("set", name, right)


def keep(field, right):
    return ("keep", field, right)


def do(right):
    return ("do", right)


def show(simple):
    return ("print", simple)


def say(word):
    return ("print", w(word))


def ret(right):
    return ("return", right)


def throw(right):
    return ("raise", right)


def cond(test, block, other=()):
    return ("if", test, block, other)


def loop(test, *block):
    return ("while", test, block)


def attempt(block, name, other):
    return ("try", block, name, other)


def last(block, other):
    return ("last", block, other)


def cls(methods=None, fields=None, above=None, mark="open"):
    return (above, mark, fields or {}, methods or {})


def method(params, *block):
    return (tuple(params.split()), block)


def body(*statements, **classes):
    return Program(classes, statements)


def deep(kind, times=60):
    """A value nested so many deep, of tuples, lists or dicts."""
    value = "a"
    for _ in range(times):
        value = {"tuple": (value,), "list": [value], "dict": {"a": value}}[kind]
    return value


def packed(statements):
    """A block that does these statements, however many, one step more for each if around them."""
    block = tuple(statements)
    while len(block) > 12:
        groups = [block[at:at + 12] for at in range(0, len(block), 12)]
        block = tuple(cond(YES, group) for group in groups)
    return block


def letters(number):
    """A name for a number from 0 on."""
    return "f" + "".join(chr(ord("a") + number // 26 ** place % 26) for place in (2, 1, 0))


def chain(calls, block, around=lambda statement: (statement,)):
    """Statements that do the block with so many calls under way."""
    made = [let(letters(0), fn("", *block))]
    for number in range(1, calls):
        made.append(let(letters(number), fn("", *around(do(call(n(letters(number - 1))))))))
    return made + [do(call(n(letters(calls - 1))))]
