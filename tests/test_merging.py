"""[27] to [29]: standings to which a thing comes, and those that nothing tells apart."""

import copy
import unittest

import naive
from plainmaker import PlainMaker
from shorthand import (ME, NONE, ask, attempt, body, call, cls, cond, deep, do, f, keep, last, let, method, n, ret, same,
                       say, throw, w)
from standsfor.errors import BadNumber, NotPlain, TooMany
from standsfor.merging import come_to, groups, idle_fields, is_merge, trimmed, waiting
from standsfor.plain import words_of
from standsfor.plays import Play
from standsfor.standings import standings
from standsfor.tables import alike, table
from standsfor.within import Reading, after_answer, after_ask
from test_general import ODD_VALUES, limit_of_calls

A = w("a")
B = w("b")
WITH_MOST = (come_to, waiting, groups, trimmed, idle_fields)


def marks(methods, fields=None):
    return [cls(methods, fields, mark=mark) for mark in ("open", "closed")]


class ComeTo(unittest.TestCase):
    def test_without_waits(self):
        for one in marks({"m": method("", keep("x", B))}, {"x": ("a", "b", "c"), "y": ("d",)}):
            self.assertEqual(come_to(one), [("a", "d"), ("b", "d")])
            self.assertEqual(waiting(one), [])
        self.assertEqual(come_to(cls()), [()])
        self.assertEqual(waiting(cls()), [])

    def test_ascending_by_the_words(self):
        one = cls({"m": method("p", keep("x", n("p"))), "k": method("p", keep("y", n("p")))},
                  {"x": ("c", "a", "b"), "y": ("b", "a")})
        self.assertEqual(come_to(one), [(x, y) for x in "abc" for y in "ab"])
        self.assertEqual(standings(one)[0], ("c", "b"))

    def test_in_the_midst_of_a_method_is_not_come_to(self):
        for one in marks({"m": method("", keep("x", B), keep("x", w("c")))}, {"x": ("a", "b", "c")}):
            self.assertEqual(come_to(one), [("a",), ("c",)])

    def test_while_a_call_waits(self):
        held = {"m": method("p", keep("x", B), last((do(call(n("p"))),), (keep("x", A),)))}
        for one in marks(held, {"x": ("a", "b", "c")}):
            self.assertEqual(come_to(one), [("a",), ("b",)])
            frame = ((("m", (1, 0, 0), (("p", ("able", 0)),), ()),), 2)
            self.assertEqual(waiting(one), [frame])

    def test_asks_of_itself(self):
        asking = {"m": method("", keep("x", B), do(ask(ME, "k")), keep("x", A)), "k": method("")}
        opened, closed = marks(asking, {"x": ("a", "b")})
        self.assertEqual((come_to(opened), come_to(closed)), ([("a",), ("b",)], [("a",)]))
        self.assertEqual((waiting(opened), waiting(closed)), ([((("m", (1,), (), ()),), 2)], []))

    def test_only_what_the_surroundings_can_do(self):
        """The third word is kept only if a call comes to the second one of this very level."""
        deep_down = {"m": method("p", let("y", f("x")), keep("x", A), do(call(n("p"))),
                                 cond(("both", same(n("y"), B), same(f("x"), B)), (keep("x", w("c")),), ())),
                     "up": method("", cond(same(f("x"), A), (keep("x", B),)))}
        for one in marks(deep_down, {"x": ("a", "b", "c", "d")}):
            self.assertEqual(come_to(one), [("a",), ("b",), ("c",)])
        never = {**deep_down, "up": method("")}
        for one in marks(never, {"x": ("a", "b", "c", "d")}):
            self.assertEqual(come_to(one), [("a",)])

    def test_words_of_the_class_alone(self):
        one = cls({"m": method("p", keep("x", n("p")))}, {"x": ("a", "nofunc")})
        self.assertEqual(come_to(one), [("a",), ("nofunc",)])
        caught = {"m": method("p", attempt((do(call(n("p"))),), "e", (keep("x", n("e")),)))}
        self.assertEqual(come_to(cls(caught, {"x": ("a", "badword")})), [("a",), ("badword",)])
        self.assertEqual(come_to(cls(caught, {"x": ("a", "nofunc")})), [("a",), ("nofunc",)])

    def test_frames_each_once(self):
        one = cls({"m": method("p q", do(call(n("p"))), do(call(n("q"), f("x")))), "k": method("p", keep("x", n("p")))},
                  {"x": ("a", "b")})
        found = waiting(one)
        self.assertEqual(len(found), len(set(found)))
        self.assertEqual(set(found), {wait[0] for wait in table(one, one)[1]})


class Trimmed(unittest.TestCase):
    def test_words_that_are_never_had(self):
        one = cls({"m": method("", keep("x", B))}, {"x": ("a", "c", "b", "d"), "y": ("c", "d"), "z": ("a",)})
        self.assertEqual(trimmed(one), cls(one[3], {"x": ("a", "b"), "y": ("c",), "z": ("a",)}))

    def test_words_that_are_had_in_the_midst_of_a_method_alone(self):
        for one in marks({"m": method("", keep("x", w("c")), keep("x", B))}, {"x": ("a", "c", "b", "d")}):
            self.assertEqual(come_to(one), [("a",), ("b",)])
            self.assertEqual(trimmed(one)[2], {"x": ("a", "c", "b")})

    def test_words_that_come_from_outside(self):
        for one in marks({"m": method("p", keep("x", n("p")))}, {"x": ("a", "b"), "y": ("c", "d")}):
            self.assertEqual(trimmed(one)[2], {"x": ("a", "b"), "y": ("c",)})
        caught = {"m": method("p", attempt((do(call(n("p"))),), "e", (keep("x", n("e")),)))}
        for one in marks(caught, {"x": ("b", "nofunc", "badword")}):
            self.assertEqual(trimmed(one)[2], {"x": ("b", "nofunc", "badword")})

    def test_what_is_done_within(self):
        asking = {"m": method("", do(ask(ME, "k", B)), do(ask(ME, "k", w("c"))), do(ask(ME, "k", A))),
                  "k": method("p", cond(("either", same(n("p"), B), same(f("x"), B)), (keep("x", n("p")),)))}
        for one in marks(asking, {"x": ("a", "b", "c", "d")}):
            self.assertEqual(trimmed(one)[2], {"x": ("a", "b", "c", "d")})
        held = {"m": asking["m"], "k": method("", keep("x", B), keep("x", A))}
        for one in marks(held, {"x": ("a", "b", "c", "d")}):
            self.assertEqual(trimmed(one)[2], {"x": ("a", "b")})

    def test_the_first_word_stays(self):
        one = cls({"m": method("")}, {"x": ("d", "a")})
        self.assertEqual(trimmed(one)[2], {"x": ("d",)})

    def test_a_word_that_only_unreached_statements_keep(self):
        one = cls({"m": method("", cond(same(f("x"), B), (keep("x", w("c")),)), ret(NONE), keep("x", w("d")))},
                  {"x": tuple("abcd")})
        self.assertEqual(trimmed(one)[2], {"x": ("a",)})

    def test_dicts_are_new(self):
        one = cls({"m": method("", keep("x", B))}, {"x": ("a", "b", "c")})
        ahead = copy.deepcopy(one)
        made = trimmed(one)
        self.assertEqual(one, ahead)
        made[2].clear()
        made[3].clear()
        self.assertEqual(one, ahead)
        self.assertEqual(trimmed(one)[3], one[3])

    def test_alike_to_the_class(self):
        many = 0
        for seed in range(7000, 7120):
            one = PlainMaker(seed, size=3, calls=2).cls()
            try:
                made = trimmed(one, most=200)
                self.assertIs(alike(one, made, most=400), True)
                self.assertEqual(trimmed(made, most=400), made)
                many += made != one
            except TooMany:
                pass
        self.assertGreater(many, 20)


class Groups(unittest.TestCase):
    def test_what_is_told_apart_at_once(self):
        for one in marks({"m": method("p", keep("x", n("p"))), "get": method("", ret(f("x")))}, {"x": ("b", "a")}):
            self.assertEqual(groups(one), [(("a",),), (("b",),)])
            self.assertEqual(idle_fields(one), [])

    def test_what_nothing_tells_apart(self):
        for one in marks({"m": method("p", keep("x", n("p")))}, {"x": ("b", "a", "c")}):
            self.assertEqual(groups(one), [(("a",), ("b",), ("c",))])
            self.assertEqual(idle_fields(one), ["x"])

    def test_some_of_each(self):
        telling = method("", cond(same(f("x"), B), (ret(B),)))
        for one in marks({"m": method("p", keep("x", n("p"))), "get": telling}, {"x": ("a", "b", "c")}):
            self.assertEqual(groups(one), [(("a",), ("c",)), (("b",),)])
            self.assertEqual(idle_fields(one), [])

    def test_what_is_told_apart_by_later_moves_alone(self):
        count = method("", cond(same(f("x"), A), (keep("x", B),), (cond(same(f("x"), B), (keep("x", w("c")),),
                                                                        (throw(A),)),)))
        for one in marks({"m": count}, {"x": ("a", "b", "c")}):
            self.assertEqual(groups(one), [(("a",),), (("b",),), (("c",),)])

    def test_what_is_told_apart_behind_a_call_alone(self):
        for one in marks({"m": method("p", do(call(n("p"))), ret(f("x"))), "put": method("p", keep("x", n("p")))},
                         {"x": ("a", "b")}):
            self.assertEqual(groups(one), [(("a",),), (("b",),)])

    def test_frames_that_are_one(self):
        """The name that is kept while the call waits makes no difference."""
        held = {"m": method("p", let("y", f("x")), do(call(n("p")))), "put": method("p", keep("x", n("p")))}
        for one in marks(held, {"x": ("a", "b")}):
            self.assertEqual(len(waiting(one)), 2)
            self.assertEqual(groups(one), [(("a",), ("b",))])
        for one in marks({**held, "m": method("p", let("y", f("x")), do(call(n("p"))), ret(n("y")))},
                         {"x": ("a", "b")}):
            self.assertEqual(groups(one), [(("a",),), (("b",),)])

    def test_any_frame_at_any_standing(self):
        """No program tells the standings apart: the frame that would never waits at the other one."""
        sure = {"m": method("p", cond(same(f("x"), A), (do(call(n("p"))), ret(f("x")))))}
        one = cls({**sure, "up": method("", keep("x", B))}, {"x": ("a", "b")})
        self.assertEqual(groups(one), [(("a",),), (("b",),)])

    def test_idle_fields(self):
        one = cls({"m": method("p", keep("x", n("p"))), "k": method("p", keep("y", n("p"))),
                   "get": method("", ret(f("y")))}, {"x": ("a", "b"), "y": ("a", "b"), "z": ("a",)})
        self.assertEqual(groups(one), [(("a", "a", "a"), ("b", "a", "a")), (("a", "b", "a"), ("b", "b", "a"))])
        self.assertEqual(idle_fields(one), ["x", "z"])

    def test_fields_of_which_no_two_standings_differ_alone(self):
        both = {"m": method("p", keep("x", n("p")), keep("y", n("p"))), "get": method("", ret(f("y")))}
        for one in marks(both, {"x": ("a", "b"), "y": ("a", "b")}):
            self.assertEqual(come_to(one), [("a", "a"), ("b", "b")])
            self.assertEqual(groups(one), [(("a", "a"),), (("b", "b"),)])
            self.assertEqual(idle_fields(one), ["x", "y"])
        self.assertEqual(idle_fields(cls()), [])

    def test_only_where_all_standings_are_one(self):
        """The field makes a difference for one word of the other alone."""
        one = cls({"m": method("p", keep("x", n("p"))), "k": method("p", keep("y", n("p"))),
                   "get": method("", cond(same(f("y"), B), (ret(f("x")),)))}, {"x": ("a", "b"), "y": ("a", "b", "c")})
        self.assertEqual(idle_fields(one), [])
        self.assertIn((("a", "a"), ("a", "c"), ("b", "a"), ("b", "c")),
                      groups(cls({**one[3], "k": method("p", cond(same(n("p"), B), (), (keep("y", n("p")),)))},
                                 one[2])))

    def test_lists_are_new(self):
        one = cls({"m": method("p", do(call(n("p"))), keep("x", n("p")))}, {"x": ("a", "b")})
        ahead = copy.deepcopy(one)
        for function in (come_to, waiting, groups, idle_fields):
            told = function(one)
            self.assertIsInstance(told, list)
            held = list(told)
            told.append("more")
            self.assertEqual(function(one), held)
        self.assertEqual(one, ahead)


class Chance(unittest.TestCase):
    def made(self, seeds, most=40):
        for seed in seeds:
            maker = PlainMaker(seed, size=3, calls=2)
            one = maker.cls()
            try:
                come_to(one, most=most)
            except TooMany:
                continue
            yield maker, one, naive.One(one)

    def bounds(self, function, one, least):
        function(one, most=least)
        if least > 1:
            with self.assertRaises(TooMany) as caught:
                function(one, most=least - 1)
            self.assertEqual(caught.exception.most, least - 1)

    def test_standings_and_frames(self):
        seen = {"standings": 0, "frames": 0}
        for _, one, slow in self.made(range(8000, 8080)):
            with self.subTest(one):
                self.assertEqual(come_to(one, most=40), slow.come_to)
                found = waiting(one, most=40)
                self.assertEqual((set(found), len(found)), (slow.waiting, len(slow.waiting)))
                lists, waits, _ = naive.least(one, one)
                for function in (come_to, waiting, trimmed):
                    self.bounds(function, one, max(len(lists), len(waits)))
                pairs, frames, _ = slow.merge([])
                square = max(len(lists), len(waits), len(pairs) ** 2, len(frames) ** 2)
                for function in (groups, idle_fields):
                    self.bounds(function, one, square)
                seen["standings"] += len(slow.come_to) > 1
                seen["frames"] += len(slow.waiting) > 1
        self.assertGreater(min(seen.values()), 3, seen)

    def test_groups(self):
        seen = {True: 0, False: 0}
        for _, one, slow in self.made(range(9000, 9160), 24):
            try:
                found = groups(one, most=400)
            except TooMany:
                continue
            with self.subTest(one):
                number = {standing: at for at, group in enumerate(found) for standing in group}
                self.assertEqual(sorted(number), slow.come_to)
                self.assertEqual(found, sorted(tuple(sorted(group)) for group in found))
                for first in slow.come_to:
                    for second in slow.come_to:
                        like = slow.merge([(first, second)])[2]
                        self.assertIs(like, number[first] == number[second])
                        seen[like] += first != second
                idle = [field for at, field in enumerate(sorted(one[2])) if all(
                    number[first] == number[second] for first in number for second in number
                    if first[:at] + first[at + 1:] == second[:at] + second[at + 1:])]
                self.assertEqual(idle_fields(one, most=400), idle)
        self.assertGreater(min(seen.values()), 30, seen)

    def test_merges(self):
        seen = {True: 0, False: 0}
        for maker, one, slow in self.made(range(10000, 10060), 14):
            made = [slow.merge([])]
            for _ in range(3):
                made.append(slow.merge([(maker.pick(slow.come_to), maker.pick(slow.come_to))]))
                made.append(slow.merge([(maker.pick(standings(one)), maker.pick(standings(one)))]))
            for pairs, frames, like in made:
                if len(pairs) * len(frames) > 300:
                    continue
                with self.subTest((one, pairs, frames)):
                    self.assertIs(is_merge(one, (list(pairs), list(frames))), like)
                for _ in range(3):
                    thing = self.changed(maker, one, sorted(pairs), list(frames))
                    told = is_merge(one, thing)
                    with self.subTest((one, thing)):
                        self.assertIs(told, slow.is_closed(thing))
                    seen[told] += 1
        self.assertGreater(min(seen.values()), 30, seen)

    def changed(self, maker, one, pairs, frames):
        pairs, frames = list(pairs), list(frames)
        kind = maker.pick(("less", "more", "turned", "twice", "frame", "frame", "other"))
        known = standings(one)
        if kind == "less":
            pairs.pop(maker.chance.randrange(len(pairs)))
        elif kind == "more":
            pairs.append((maker.pick(known), maker.pick(known)))
        elif kind == "turned":
            pairs, frames = [pair[::-1] for pair in pairs], [pair[::-1] for pair in frames]
        elif kind == "twice" or not frames:
            pairs, frames = pairs * 2, frames * 2
        elif kind == "frame":
            frames.pop(maker.chance.randrange(len(frames)))
        else:
            frames.append((maker.pick(frames)[0], maker.pick(frames)[1]))
        return pairs, frames

    def test_a_thing_is_put_into_another_standing_of_its_group(self):
        """From then on it shows the same events, whatever waits."""
        many = 0
        for maker, one, slow in self.made(range(11000, 11150), 30):
            try:
                found = [group for group in groups(one, most=2000) if len(group) > 1]
            except TooMany:
                continue
            if not found:
                continue
            words = words_of(one)
            for _ in range(4):
                many += self.put(maker, one, words, found)
        self.assertGreater(many, 60)

    def put(self, maker, one, words, found):
        play = Play(one, words)
        for _ in range(maker.chance.randrange(6)):
            play.move(maker.move(words, len(play.frames())))
        group = [group for group in found if play.standing() in group]
        if not group:
            return 0
        reading = Reading(one)
        standing, frames = maker.pick(group[0]), play.frames()
        changed = standing != play.standing()
        for _ in range(8):
            move = maker.move(words, len(frames))
            if move[0] == "ask":
                event, standing, frame = after_ask(reading, standing, move[1], move[2:])
            else:
                event, standing, frame = after_answer(reading, standing, frames.pop(), *move)
            if frame is not None:
                frames.append(frame)
            self.assertEqual(play.move(move), event, (one, standing))
        return changed


class Bounds(unittest.TestCase):
    def check(self, function, one, least):
        function(one, most=least)
        function(one, most=100000)
        if least > 1:
            with self.assertRaises(TooMany) as caught:
                function(one, most=least - 1)
            self.assertEqual(caught.exception.most, least - 1)

    def test_standings(self):
        fields = {name: ("a", "b") for name in "xyz"}
        one = cls({name: method("p", keep(name, n("p"))) for name in "xyz"}, fields)
        for function in (come_to, waiting, trimmed):
            self.check(function, one, 8)
        for function in (groups, idle_fields):
            self.check(function, one, 64)

    def test_frames(self):
        one = cls({"m": method("p q", do(call(n("p"))), do(call(n("q"))))})
        self.assertEqual(len(waiting(one)), 4)
        for function in (come_to, waiting, trimmed):
            self.check(function, one, 4)
        for function in (groups, idle_fields):
            self.check(function, one, 16)

    def test_squares_of_what_only_a_merge_comes_to(self):
        """The frame waits at the second standing alone, but a merge lets it go on from the first, too."""
        up = {"up": method("", keep("x", B))}
        fields = {"x": ("a", "b", "c")}
        one = cls({**up, "m": method("p", cond(same(f("x"), B), (do(call(n("p"))), cond(same(f("x"), A),
                                                                                       (keep("x", w("c")),)))))},
                  fields)
        self.assertEqual((come_to(one), len(waiting(one))), ([("a",), ("b",)], 1))
        self.check(come_to, one, 3)
        for function in (groups, idle_fields):
            self.check(function, one, 9)
        calls = tuple(do(call(n("p"))) for _ in range(4))
        one = cls({**up, "m": method("p", cond(same(f("x"), B), (do(call(n("p"))), cond(same(f("x"), A), calls))))},
                  fields)
        self.assertEqual((come_to(one), len(waiting(one))), ([("a",), ("b",)], 1))
        self.check(waiting, one, 3)
        for function in (groups, idle_fields):
            self.check(function, one, 25)

    def test_what_comes_at_standings_that_only_a_merge_comes_to(self):
        """The frame goes on from each standing that it comes to itself."""
        behind = (cond(same(f("x"), A), (keep("x", w("c")), ret(NONE))), cond(same(f("x"), w("c")), (keep("x", w("d")),)))
        one = cls({"up": method("", keep("x", B)), "m": method("p", cond(same(f("x"), B), (do(call(n("p"))), *behind)))},
                  {"x": ("a", "b", "c", "d")})
        self.assertEqual((come_to(one), len(waiting(one))), ([("a",), ("b",)], 1))
        for function in (groups, idle_fields):
            self.check(function, one, 16)

    def test_most_is_2000_unless_told(self):
        for many, told in ((11, True), (12, False)):
            calls = tuple(do(call(n("p"))) for _ in range(many))
            one = cls({"m": method("p", *calls), "k": method("p", *calls), "j": method("p", *calls),
                       "i": method("p", *calls[:11])})
            self.assertEqual(len(waiting(one)), 3 * many + 11)
            self.assertIs((3 * many + 11) ** 2 <= 2000, told)
            for function in (groups, idle_fields):
                if told:
                    function(one)
                else:
                    with self.assertRaises(TooMany) as caught:
                        function(one)
                    self.assertEqual(caught.exception.most, 2000)

    def test_is_merge_has_no_bound(self):
        one = cls({"m": method("p", *[let(name, call(n("p"), A, B)) for name in "abcde"])})
        frames = [(frame, frame) for frame in waiting(one, most=100000)]
        self.assertGreater(len(frames), 700)
        self.assertIs(is_merge(one, ([((), ())], frames)), True)
        self.assertIs(is_merge(one, ([((), ())], frames[1:])), False)
        self.assertIs(is_merge(one, ([((), ())], [])), False)

    def test_what_would_never_end_is_judged_at_once(self):
        one = cls({"m": method("p", *[let(name, call(n("p"), A, B)) for name in "abcdefghijkl"])})
        with self.assertRaises(TooMany):
            waiting(one, most=5000)
        frame = ((("m", (0,), (("p", ("able", 0)),), ()),), 2)
        self.assertIs(is_merge(one, ([((), ())], [])), False)
        self.assertIs(is_merge(one, ([((), ())], [(frame, frame)])), False)

    def test_no_deep_calls(self):
        calls = (do(call(n("p"))),) * 12
        one = cls({"m": method("p", *(cond(same(f("x"), A), calls),) * 12), "put": method("p", keep("x", n("p")))},
                  {"x": ("a", "b")})
        with limit_of_calls(80):
            self.assertEqual(groups(one, most=100000), [(("a",),), (("b",),)])
            frames = [(frame, frame) for frame in waiting(one, most=100000)]
            pairs = [(standing, standing) for standing in come_to(one, most=100000)]
            self.assertIs(is_merge(one, (pairs, frames)), True)

    def test_many_standings_and_frames(self):
        fields = {name: tuple("abcd") for name in "xyz"}
        puts = {f"p{name}": method("p", keep(name, n("p"))) for name in "xyz"}
        for shown, idle in ((("x", "z"), ["y"]), ((), ["x", "y", "z"])):
            calls = [do(call(n("p"), f(name))) for name in shown] + [do(call(n("q")))]
            one = cls({**puts, "m": method("p q", *calls)}, fields)
            found = groups(one, most=100000)
            self.assertEqual(len(found), 4 ** len(shown))
            self.assertEqual(idle_fields(one, most=100000), idle)


class Judged(unittest.TestCase):
    ONE = cls({"m": method("p", do(call(n("p")))), "put": method("p", keep("x", n("p")))}, {"x": ("a", "b")})
    FRAME = ((("m", (0,), (("p", ("able", 0)),), ()),), 2)
    PAIRS = [(("a",), ("a",)), (("b",), ("b",))]

    def judged(self, pairs, frames):
        return is_merge(self.ONE, (pairs, frames))

    def test_closed_ones(self):
        frames = [(self.FRAME, self.FRAME)]
        odd = (("a",), ("b",))
        for pairs in (self.PAIRS, self.PAIRS[::-1], self.PAIRS * 2, self.PAIRS + [odd], self.PAIRS + [odd, odd[::-1]]):
            self.assertIs(self.judged(pairs, frames), True)
            self.assertIs(self.judged(pairs, frames * 2), True)

    def test_what_is_left_out(self):
        frames = [(self.FRAME, self.FRAME)]
        self.assertIs(self.judged(self.PAIRS, []), False)
        for at in range(2):
            self.assertIs(self.judged(self.PAIRS[:at] + self.PAIRS[at + 1:], frames), False)
        self.assertIs(self.judged([], frames), False)
        self.assertIs(self.judged([], []), False)
        self.assertIs(is_merge(cls(), ([], [])), False)
        self.assertIs(is_merge(cls(), ([((), ())], [])), True)

    def test_a_standing_with_which_a_frame_waits_is_left_out(self):
        held = cls({"m": method("p", keep("x", B), last((do(call(n("p"))),), (keep("x", A),)))}, {"x": ("a", "b")})
        frame = waiting(held)[0]
        self.assertIs(is_merge(held, (self.PAIRS, [(frame, frame)])), True)
        self.assertIs(is_merge(held, (self.PAIRS[:1], [(frame, frame)])), False)

    def test_frames_that_nothing_asks_for(self):
        inner = self.FRAME[0][0]
        frames = [(self.FRAME, self.FRAME)]
        for odd in (((inner,), 3), ((inner, inner), 2), ((), 2), "frame", 7, (), ((("put", *inner[1:]),), 2),
                    (((*inner[:2], (), ()),), 2), (((*inner[:3], (("on",),)),), 2)):
            for pair in ((odd, odd), (odd, self.FRAME), (self.FRAME, odd)):
                self.assertIs(self.judged(self.PAIRS, frames + [pair]), False)
                self.assertIs(self.judged(self.PAIRS, [pair]), False)

    def test_unlike_events(self):
        one = cls({"put": method("p", keep("x", n("p"))), "get": method("", ret(f("x")))}, {"x": ("a", "b")})
        self.assertIs(is_merge(one, (self.PAIRS, [])), True)
        for odd in ((("a",), ("b",)), (("b",), ("a",))):
            self.assertIs(is_merge(one, (self.PAIRS + [odd], [])), False)

    def test_frames_that_are_not_the_same(self):
        held = cls({"m": method("p", let("y", f("x")), do(call(n("p")))), "put": method("p", keep("x", n("p")))},
                   {"x": ("a", "b")})
        made = [((("m", (1,), (("p", ("able", 0)), ("y", w(word))), ()),), 2) for word in "ab"]
        frames = [(frame, frame) for frame in made]
        odd = (("a",), ("b",))
        self.assertIs(is_merge(held, (self.PAIRS, frames)), True)
        self.assertIs(is_merge(held, (self.PAIRS + [odd], frames)), False)
        self.assertIs(is_merge(held, (self.PAIRS + [odd], frames + [tuple(made)])), True)
        self.assertIs(is_merge(held, (self.PAIRS + [odd], frames + [tuple(made[::-1])])), False)
        self.assertIs(is_merge(held, (self.PAIRS + [odd[::-1]], frames + [tuple(made[::-1])])), True)
        self.assertIs(is_merge(held, (self.PAIRS, frames + [tuple(made)])), False)

    def test_standings_that_are_not_come_to(self):
        one = cls({"get": method("", ret(A))}, {"x": ("a", "b")})
        self.assertEqual(come_to(one), [("a",)])
        for pairs in ([self.PAIRS[0]], self.PAIRS, [*self.PAIRS, (("a",), ("b",))], [self.PAIRS[0], (("b",), ("a",))]):
            self.assertIs(is_merge(one, (pairs, [])), True)
        for odd in ((("c",), ("a",)), (("a",), ("c",)), ((), ()), (("a", "a"), ("a", "a"))):
            self.assertIs(is_merge(one, ([self.PAIRS[0], odd], [])), False)

    def test_kinds(self):
        frames = [(self.FRAME, self.FRAME)]
        wrong = [[self.PAIRS, frames], (self.PAIRS, frames, []), (self.PAIRS,), (tuple(self.PAIRS), frames),
                 (self.PAIRS, tuple(frames)), (self.PAIRS, None), (None, frames), (dict(self.PAIRS), frames),
                 ([list(pair) for pair in self.PAIRS], frames), (self.PAIRS, [list(pair) for pair in frames]),
                 ([(list(one), other) for one, other in self.PAIRS], frames),
                 (self.PAIRS, [(list(self.FRAME), self.FRAME)]), ([(*pair, pair[0]) for pair in self.PAIRS], frames),
                 (self.PAIRS, [(self.FRAME,)]), (self.PAIRS + [self.PAIRS[0][:1]], frames),
                 (self.PAIRS, frames + [(*frames[0], self.FRAME)])]
        for thing in wrong + ODD_VALUES + [body(), Play(self.ONE, ["a", "b"])]:
            with self.subTest(thing):
                self.assertIs(is_merge(self.ONE, thing), False)
        for odd in ODD_VALUES:
            for pairs, more in ((odd, frames), (self.PAIRS, odd), (self.PAIRS + [odd], frames),
                                (self.PAIRS, frames + [odd]), (self.PAIRS + [(odd, ("c",))], frames),
                                (self.PAIRS, frames + [(odd, odd)]), (self.PAIRS, [(odd, self.FRAME)])):
                self.assertIs(self.judged(pairs, more), False)

    def test_flags_are_no_integers(self):
        def flagged(thing, number, flag):
            if isinstance(thing, tuple):
                return tuple(flagged(part, number, flag) for part in thing)
            return flag if thing == number else thing

        frame = flagged(self.FRAME, 0, False)
        self.assertEqual(frame, self.FRAME)
        self.assertIs(self.judged(self.PAIRS, [(frame, frame)]), False)


class Wrong(unittest.TestCase):
    PLAIN = cls({"m": method("")})
    WRONG = [None, True, 0, "box", (), [], {}, deep("tuple"), deep("list"), deep("dict"), cls({}, {}, "top"), body(),
             cls({"m": method("", say("a"))}), (None, "open", {}), cls({"m": method("", do(ask(ME, "m")))})]

    def raises(self, error, attribute, value, function, *args, **more):
        with self.assertRaises(error) as caught:
            function(*args, **more)
        self.assertEqual(getattr(caught.exception, attribute), value)
        self.assertIs(type(getattr(caught.exception, attribute)), type(value))

    def test_classes_go_ahead_of_numbers(self):
        for wrong in self.WRONG:
            for function in WITH_MOST:
                self.raises(NotPlain, "cls", wrong, function, wrong)
                self.raises(NotPlain, "cls", wrong, function, wrong, most=0)
            self.raises(NotPlain, "cls", wrong, is_merge, wrong, None)
            self.raises(NotPlain, "cls", wrong, is_merge, wrong, ([((), ())], []))

    def test_numbers(self):
        many = cls({"m": method("p", *[let(name, call(n("p"))) for name in "abcdefgh"])})
        for function in WITH_MOST:
            for most in ODD_VALUES + [-1, 100001, 10 ** 30, "5", (5,)]:
                if most != 1 or isinstance(most, bool):
                    self.raises(BadNumber, "number", most, function, many, most=most)
            for most in (1, 2, 2000, 100000):
                function(self.PLAIN, most=most)
            with self.assertRaises(TypeError):
                function(self.PLAIN, 2000)
            self.raises(TooMany, "most", 500, function, many, most=500)


if __name__ == "__main__":
    unittest.main()
