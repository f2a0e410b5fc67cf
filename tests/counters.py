"""Plain classes that count, up to what many moves are needed for, for the tests."""

from shorthand import call, cls, cond, do, f, keep, last, let, method, n, ret, same, w

WORDS = "abcd"


def digits(many, number):
    """The words that stand for a number in so many fields, the lowest one first."""
    return [WORDS[number // 4 ** place % 4] for place in range(many)]


def fields(many):
    return {"xyz"[place]: tuple(WORDS) for place in range(many)}


def holds(many, number):
    """The test that the fields have the number."""
    test = None
    for place, word in enumerate(digits(many, number)):
        one = same(f("xyz"[place]), w(word))
        test = one if test is None else ("both", test, one)
    return test


def up(many, reads=f):
    """Adds one to what the names or fields of these digits have, and puts it into the fields."""
    block = ()
    for place in range(many - 1, -1, -1):
        field, read = "xyz"[place], reads("xyz"[place])
        # From the highest word down, so that a field is put up once.
        steps = tuple(cond(same(read, w(WORDS[low])), (keep(field, w(WORDS[low + 1])),)) for low in (2, 1, 0))
        # What comes from names has to be put back into the digits above, too.
        above = () if reads is f else tuple(keep("xyz"[at], reads("xyz"[at])) for at in range(place + 1, many))
        block = (cond(same(read, w("d")), (keep(field, w("a")), *block), (*steps, *above)),)
    return block


def doubling(many, full, word="b", mark="open"):
    """Each number takes twice the moves of the one below, and two more; get tells when it is full.

    A call begins at 0 again, and only if it comes as far as it was ahead of the
    call, one more is counted.
    """
    names = ["xyz"[at] for at in range(many)]
    test = None
    for name in names:
        one = same(f(name), n(name))
        test = one if test is None else ("both", test, one)
    reset = tuple(keep(name, w("a")) for name in names)
    more = method("p", *[let(name, f(name)) for name in names], *reset, do(call(n("p"))),
                  cond(test, up(many, n), reset))
    get = method("", cond(holds(many, full), (ret(w(word)),)))
    return cls({"more": more, "get": get}, fields(many), mark=mark)


def moves_of_doubling(full):
    """The fewest moves that tell two such classes with unlike words apart."""
    return 2 ** (full + 1) - 1


def plain_counter(many, full, word="b", mark="open"):
    """Each ask counts one; get tells when it is full."""
    get = method("", cond(holds(many, full), (ret(w(word)),)))
    return cls({"more": method("", *up(many)), "get": get}, fields(many), mark=mark)


def nested(full, word="b", mark="open", calls=1):
    """Counts how many calls wait within one another; get tells when it is full."""
    reset = tuple(keep(name, w("a")) for name in "xyz")
    more = method("p", last((*up(3), *[do(call(n("p"))) for _ in range(calls)]), reset))
    get = method("", cond(holds(3, full), (ret(w(word)),)))
    return cls({"more": more, "get": get}, fields(3), mark=mark)
