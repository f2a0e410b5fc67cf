"""[12]: sessions."""

import unittest

from shorthand import (NONE, YES, ask, attempt, body, call, chain, cls, cond, do, f, fn, keep, last, let, loop, method,
                       n, new, packed, parent, put, ret, same, say, show, throw, w)
from standsfor.errors import BadNumber, Ended, NothingDone
from standsfor.programs import Program
from standsfor.runs import run
from standsfor.sessions import Session


def sight(session):
    """All that there is to see of a session."""
    return (len(session), session.lines(), session.end(), session.at(), session.depth(), session.names(),
            session.fields())


CLASSES = {
    "top": cls({"keep": method("v", keep("x", n("v")), show(f("x"))), "fn": method("", ret(fn("p", show(f("y")))))},
               {"x": ("a", "b"), "y": ("c",)}),
    "low": cls({"both": method("v", do(parent("keep", n("v"))), show(f("x")))}, {"x": ("d",)}, "top"),
}
BODY = (
    say("start"),
    let("o", new("low")),
    do(ask(n("o"), "both", w("b"))),
    let("g", ask(n("o"), "fn")),
    do(call(n("g"), n("o"))),
    attempt((throw(w("x")), say("never")), "e", (show(n("e")),)),
    last((), (say("l"),)),
    let("i", w("a")),
    loop(same(n("i"), w("a")), put("i", NONE)),
)


class Places(unittest.TestCase):
    def setUp(self):
        self.session = Session(Program(CLASSES, BODY))

    def at(self, *expected):
        self.assertEqual(sight(self.session), expected)

    def step(self, *printed):
        self.assertEqual(self.session.step(), list(printed))

    def test_each_place(self):
        low, top = CLASSES["low"][3], CLASSES["top"][3]
        both, kept, made = low["both"][1], top["keep"][1], top["fn"][1]
        self.at(0, [], None, BODY[0], 0, {}, {})
        self.step("start")
        self.at(1, ["start"], None, BODY[1], 0, {}, {})
        self.step()
        names = {"o": "thing"}
        self.at(2, ["start"], None, BODY[2], 0, names, {})
        self.step()
        self.at(3, ["start"], None, both[0], 1, {"v": "b"}, {"x": "d"})
        self.step()
        self.at(4, ["start"], None, kept[0], 2, {"v": "b"}, {"x": "a", "y": "c"})
        self.step()
        self.at(5, ["start"], None, kept[1], 2, {"v": "b"}, {"x": "b", "y": "c"})
        self.step("b")
        self.at(6, ["start", "b"], None, both[1], 1, {"v": "b"}, {"x": "d"})
        self.step("d")
        lines = ["start", "b", "d"]
        self.at(7, lines, None, BODY[3], 0, names, {})
        self.step()
        self.at(8, lines, None, made[0], 1, {}, {"x": "b", "y": "c"})
        self.step()
        names = {"o": "thing", "g": "function"}
        self.at(9, lines, None, BODY[4], 0, names, {})
        self.step()
        self.at(10, lines, None, made[0][1][2][0], 1, {"p": "thing"}, {"x": "b", "y": "c"})
        self.step("c")
        lines = lines + ["c"]
        self.at(11, lines, None, BODY[5], 0, names, {})
        self.step()
        self.at(12, lines, None, BODY[5][1][0], 0, names, {})
        self.step()
        names = {**names, "e": "x"}
        self.at(13, lines, None, BODY[5][3][0], 0, names, {})
        self.step("x")
        lines = lines + ["x"]
        self.at(14, lines, None, BODY[6], 0, names, {})
        self.step()
        self.at(15, lines, None, BODY[6][2][0], 0, names, {})
        self.step("l")
        lines = lines + ["l"]
        self.at(16, lines, None, BODY[7], 0, names, {})
        self.step()
        self.at(17, lines, None, BODY[8], 0, {**names, "i": "a"}, {})
        self.step()
        self.at(18, lines, None, BODY[8][2][0], 0, {**names, "i": "a"}, {})
        self.step()
        self.at(19, lines, None, BODY[8], 0, {**names, "i": "none"}, {})
        self.step()
        self.at(20, lines, ("done",), None, 0, {**names, "i": "none"}, {})
        with self.assertRaises(Ended):
            self.session.step()
        self.at(20, lines, ("done",), None, 0, {**names, "i": "none"}, {})

    def test_back_and_forth(self):
        session = self.session
        seen = [sight(session)]
        while session.end() is None:
            session.step()
            seen.append(sight(session))
        for expected in reversed(seen[:-1]):
            self.assertIsNone(session.back())
            self.assertEqual(sight(session), expected)
        with self.assertRaises(NothingDone):
            session.back()
        self.assertEqual(sight(session), seen[0])
        for at in range(1, len(seen)):
            printed = session.step()
            self.assertEqual(sight(session), seen[at])
            self.assertEqual(printed, seen[at][1][len(seen[at - 1][1]):])
            session.back()
            self.assertEqual(sight(session), seen[at - 1])
            session.step()

    def test_a_session_does_what_run_does(self):
        lines, end = run(Program(CLASSES, BODY))
        self.assertEqual(self.session.run(10 ** 30), lines)
        self.assertEqual((self.session.lines(), self.session.end()), (lines, end))

    def test_two_sessions_of_one_program(self):
        other = Session(Program(CLASSES, BODY))
        self.session.run(7)
        self.assertEqual(len(other), 0)
        other.run(3)
        self.assertEqual((len(self.session), len(other)), (7, 3))


class Ends(unittest.TestCase):
    def test_an_empty_body(self):
        session = Session(Program(CLASSES, ()))
        self.assertEqual(sight(session), (0, [], ("done",), None, 0, {}, {}))
        with self.assertRaises(Ended):
            session.step()
        with self.assertRaises(NothingDone):
            session.back()
        self.assertEqual(session.run(5), [])
        self.assertEqual(session.run(0), [])
        self.assertEqual(sight(session), (0, [], ("done",), None, 0, {}, {}))

    def test_a_raised_end_within_calls(self):
        c = cls({"m": method("p", let("q", w("a")), do(call(fn("", throw(new("c"))))), say("never"))}, {"x": ("b",)})
        session = Session(Program({"c": c}, (let("o", new("c")), do(ask(n("o"), "m")), say("never"))))
        self.assertEqual(session.run(4), [])
        self.assertEqual((session.depth(), session.names(), session.fields()), (2, {}, {"x": "b"}))
        self.assertIsNone(session.end())
        self.assertEqual(session.step(), [])
        self.assertEqual(sight(session), (5, [], ("raised", "thing"), None, 0, {"o": "thing"}, {}))
        with self.assertRaises(Ended):
            session.step()
        self.assertEqual(session.run(3), [])
        session.back()
        self.assertEqual((session.end(), session.depth(), session.names()), (None, 2, {}))
        session.back()
        self.assertEqual((session.depth(), session.names(), session.fields()), (1, {"p": "none", "q": "a"}, {"x": "b"}))

    def test_the_last_step_goes_out_of_all_calls(self):
        session = Session(body(let("r", call(fn("", ret(call(fn("", say("in"), ret(w("v"))))))))))
        session.run(3)
        self.assertEqual((session.depth(), session.lines()), (2, ["in"]))
        session.step()
        self.assertEqual(sight(session), (4, ["in"], ("done",), None, 0, {"r": "v"}, {}))

    def test_a_step_prints_and_ends(self):
        session = Session(body(say("a")))
        self.assertEqual(session.step(), ["a"])
        self.assertEqual(session.end(), ("done",))

    def test_a_while_stands_again(self):
        statement = loop(YES)
        session = Session(body(statement))
        for done in range(5):
            self.assertEqual((len(session), session.at(), session.end()), (done, statement, None))
            self.assertEqual(session.step(), [])

    def test_calls_with_empty_blocks_have_no_place(self):
        session = Session(body(let("r", call(fn("p"))), say("a")))
        self.assertEqual(session.step(), [])
        self.assertEqual((session.at(), session.depth(), session.names()), (say("a"), 0, {"r": "none"}))

    def test_more_than_200_calls_are_no_error_here(self):
        session = Session(Program({}, packed(chain(220, (say("in"),)))))
        self.assertEqual(session.run(10 ** 5), ["in"])
        self.assertEqual(session.end(), ("done",))


class Names(unittest.TestCase):
    def test_the_innermost_surroundings_alone(self):
        session = Session(body(let("a", w("x")), let("b", NONE), do(call(fn("c", let("d", fn("")), say("s")), w("y")))))
        session.run(3)
        self.assertEqual(session.names(), {"c": "y"})
        session.step()
        self.assertEqual(session.names(), {"c": "y", "d": "function"})
        session.back()
        self.assertEqual(session.names(), {"c": "y"})
        session.run(2)
        self.assertEqual(session.names(), {"a": "x", "b": "none"})

    def test_a_name_that_a_function_sets_outside(self):
        session = Session(body(let("a", w("x")), do(call(fn("", put("a", w("y")), say("s")))), say("t")))
        session.run(3)
        self.assertEqual(session.names(), {})
        session.step()
        self.assertEqual(session.names(), {"a": "y"})
        for _ in range(3):
            session.back()
        self.assertEqual(session.names(), {"a": "x"})

    def test_many_changes_of_one_name_and_field(self):
        c = cls({"m": method("v", keep("x", n("v")), keep("x", w("c")), keep("x", w("a")))}, {"x": ("a", "b", "c")})
        session = Session(Program({"c": c}, (let("o", new("c")), do(ask(n("o"), "m", w("b"))), let("o", w("z")),
                                             let("o", NONE), let("o", w("y")))))
        seen = []
        while session.end() is None:
            seen.append((session.names(), session.fields()))
            session.step()
        self.assertEqual([fields for names, fields in seen],
                         [{}, {}, {"x": "a"}, {"x": "b"}, {"x": "c"}, {}, {}, {}])
        for expected in reversed(seen):
            session.back()
            self.assertEqual((session.names(), session.fields()), expected)

    def test_one_name_set_twice_in_a_step(self):
        inner = let("h", fn("", ret(w("in"))))
        outer = let("g", fn("", put("a", call(n("h")))))
        session = Session(body(let("a", w("x")), inner, outer, put("a", call(n("g"))), say("s")))
        session.run(5)
        self.assertEqual(session.depth(), 2)
        session.step()
        self.assertEqual(session.names()["a"], "none")
        session.back()
        session.back()
        session.back()
        self.assertEqual(session.names()["a"], "x")


class Runs(unittest.TestCase):
    def setUp(self):
        self.session = Session(body(say("a"), say("b"), say("c"), cond(YES, (say("d"),))))

    def test_many(self):
        session = self.session
        self.assertEqual(session.run(0), [])
        self.assertEqual(len(session), 0)
        self.assertEqual(session.run(1), ["a"])
        self.assertEqual(session.run(2), ["b", "c"])
        self.assertEqual(len(session), 3)
        self.assertEqual(session.run(100), ["d"])
        self.assertEqual((len(session), session.end()), (5, ("done",)))
        self.assertEqual(session.run(100), [])
        self.assertEqual(session.run(0), [])
        session.back()
        self.assertEqual(len(session), 4)
        self.assertEqual(session.run(1), ["d"])

    def test_each_step_of_a_run_is_taken_back_alone(self):
        self.session.run(5)
        for left in (4, 3, 2, 1, 0):
            self.session.back()
            self.assertEqual(len(self.session), left)

    def test_no_integer_from_0_on(self):
        self.session.run(2)
        for many in (-1, -(10 ** 20), None, True, False, "1", (1,), [1], {}, {1: 1}, 1.0):
            with self.assertRaises(BadNumber) as caught:
                self.session.run(many)
            self.assertEqual(caught.exception.number, many)
            self.assertIs(type(caught.exception.number), type(many))
        self.assertEqual(len(self.session), 2)
        self.session.run(9)
        with self.assertRaises(BadNumber):
            self.session.run(-1)


class Unlike(Exception):
    pass


class Trying(unittest.TestCase):
    def setUp(self):
        self.session = Session(Program(CLASSES, BODY))
        self.session.run(5)

    def stays(self, action):
        ahead = sight(self.session)
        try:
            return self.session.trying(action)
        finally:
            self.assertEqual(sight(self.session), ahead)

    def fail(self, session):
        session.run(4)
        raise Unlike("gone on")

    def test_what_it_returns(self):
        self.assertEqual(self.stays(lambda session: 5), 5)
        self.assertIsNone(self.stays(lambda session: None))
        told = []
        self.assertIs(self.stays(lambda session: told), told)
        self.assertIs(self.stays(lambda session: session), self.session)

    def test_steps(self):
        self.assertEqual(self.stays(lambda session: session.run(100)), ["b", "d", "c", "x", "l"])
        self.assertEqual(self.stays(lambda session: session.step()), ["b"])
        self.assertEqual(self.session.step(), ["b"])

    def test_back(self):
        def to_the_start(session):
            while len(session):
                session.back()
            return sight(session)
        self.assertEqual(self.stays(to_the_start), (0, [], None, BODY[0], 0, {}, {}))

        def back_and_further(session):
            to_the_start(session)
            session.run(100)
            session.back()
            return session.lines()
        self.assertEqual(self.stays(back_and_further), ["start", "b", "d", "c", "x", "l"])
        self.session.back()
        self.assertEqual(len(self.session), 4)

    def test_errors(self):
        with self.assertRaises(Unlike) as caught:
            self.stays(self.fail)
        self.assertEqual(caught.exception.args, ("gone on",))
        with self.assertRaises(Ended):
            self.stays(lambda session: [session.step() for _ in range(100)])
        with self.assertRaises(NothingDone):
            self.stays(lambda session: [session.back() for _ in range(100)])
        with self.assertRaises(BadNumber):
            self.stays(lambda session: (session.step(), session.run(-1)))
        with self.assertRaises(KeyboardInterrupt):
            self.stays(interrupt)

    def test_within(self):
        def outer(session):
            session.run(3)
            ahead = sight(session)
            with self.assertRaises(Unlike):
                session.trying(self.fail)
            self.assertEqual(sight(session), ahead)
            session.trying(lambda inner: [inner.back() for _ in range(7)])
            self.assertEqual(sight(session), ahead)
            session.back()
            return len(session)
        self.assertEqual(self.stays(outer), 7)

    def test_at_the_end_and_at_the_start(self):
        self.session.run(100)
        self.stays(lambda session: session.back())
        self.assertEqual(self.session.end(), ("done",))
        self.session = Session(Program(CLASSES, BODY))
        self.stays(lambda session: session.run(100))
        self.assertEqual(self.session.step(), ["start"])


def interrupt(session):
    session.step()
    raise KeyboardInterrupt()


class Size(unittest.TestCase):
    """Sessions of some size take no noticeable time, else these tests would take minutes."""

    def test_back_and_forth_in_a_long_run(self):
        many = 20000
        session = Session(Program({"c": cls({"m": method("", keep("x", w("b")))}, {"x": ("a", "b")})},
                                  (let("o", new("c")), loop(YES, let("y", w("a")), do(ask(n("o"), "m")), say("l")))))
        for _ in range(many):
            session.step()
        lines = len(session.lines())
        for _ in range(many):
            session.back()
            session.step()
            session.names()
            session.at()
            session.back()
            session.fields()
        self.assertEqual(len(session), 0)
        session.run(many)
        self.assertEqual(len(session.lines()), lines)

    def test_trying_far_down(self):
        session = Session(body(loop(YES, say("a"), let("x", NONE))))
        session.run(20000)
        for _ in range(2000):
            session.trying(lambda inner: inner.run(3))
        self.assertEqual(len(session), 20000)


if __name__ == "__main__":
    unittest.main()
