"""[19] to [21]: closed tables, and classes that are alike."""

import copy
import unittest

from shorthand import (ME, NONE, ask, attempt, body, call, cls, cond, deep, do, f, keep, last, let, method, n, put, ret,
                       same, say, throw, w)
from standsfor.errors import BadMark, BadNumber, NotPlain, TooMany
from standsfor.plain import unplain
from standsfor.plays import Play
from standsfor.tables import alike, alike_without_heirs, is_table, table
from test_general import ODD_VALUES, limit_of_calls

A = w("a")
B = w("b")

# A switch of two words, as a field tells it straight and the other way round.
SWITCH = {"turn": method("", cond(same(f("x"), A), (keep("x", B),), (keep("x", A),)), ret(f("x")))}
NEGATED = {"turn": method("", cond(same(f("no"), B), (keep("no", A),), (keep("no", B),)),
                          cond(same(f("no"), A), (ret(B),), (ret(A),)))}
# What is kept is told only behind a call.
TELL = {"tell": method("p", do(call(n("p"))), ret(f("x"))), "put": method("p", keep("x", n("p")))}
# The word is taken ahead of the call.
EARLY = {"tell": method("p", let("w", f("x")), do(call(n("p"))), ret(n("w"))), "put": TELL["put"]}


def switch(mark="open"):
    return cls(SWITCH, {"x": ("a", "b")}, mark=mark)


def negated(mark="open"):
    return cls(NEGATED, {"no": ("b", "a")}, mark=mark)


def teller(methods=None, mark="open"):
    return cls(methods or TELL, {"x": ("a", "b")}, mark=mark)


def measures(made):
    """How many pairs and waits the table has."""
    levels, waits = made
    return sum(len(pairs) for _, pairs in levels), len(waits)


class Alike(unittest.TestCase):
    def alike(self, one, other):
        for first, second in ((one, other), (other, one)):
            self.assertIs(alike(first, second), True)
            made = table(first, second)
            self.assertIs(is_table(first, second, made), True)
            if first[1] == "closed":
                self.assertIs(alike_without_heirs(first, second), True)

    def unlike(self, one, other):
        for first, second in ((one, other), (other, one)):
            self.assertIs(alike(first, second), False)
            self.assertIsNone(table(first, second))
            if first[1] == "closed":
                self.assertIs(alike_without_heirs(first, second), False)

    def test_classes_that_are_alike(self):
        for mark in ("open", "closed"):
            self.alike(switch(mark), negated(mark))
            self.alike(teller(TELL, mark), teller(TELL, mark))
            self.alike(cls(mark=mark), cls({}, {"x": ("a", "b")}, mark=mark))

    def test_classes_that_are_not(self):
        for mark in ("open", "closed"):
            self.unlike(switch(mark), cls(SWITCH, {"x": ("b", "a")}, mark=mark))
            self.unlike(switch(mark), cls(mark=mark))
            self.unlike(teller(TELL, mark), teller(EARLY, mark))
            self.unlike(cls({"m": method("", ret(A))}, mark=mark), cls({"m": method("", throw(A))}, mark=mark))
            self.unlike(cls({"m": method("", ret(ME))}, mark=mark), cls({"m": method("p", ret(n("p")))}, mark=mark))
            self.unlike(cls({"m": method("p q", ret(n("p")))}, mark=mark),
                        cls({"m": method("p q", ret(n("q")))}, mark=mark))
            self.unlike(cls({"m": method("")}, mark=mark), cls({"m": method("", ret(ME))}, mark=mark))

    def test_words_of_the_other_class_alone(self):
        for mark in ("open", "closed"):
            for word in ("more", "nofunc", "badword"):
                plain = cls({"m": method("p", ret(n("p")))}, mark=mark)
                seen = cls({"m": method("p", cond(same(n("p"), w(word)), (ret(NONE),)), ret(n("p")))}, mark=mark)
                self.unlike(plain, seen)

    def test_methods_of_the_other_class_alone(self):
        for mark in ("open", "closed"):
            self.unlike(cls({"m": method("")}, mark=mark), cls({"m": method(""), "k": method("")}, mark=mark))

    def test_params_of_the_other_class_alone(self):
        for mark in ("open", "closed"):
            self.unlike(cls({"m": method("", ret(NONE))}, mark=mark), cls({"m": method("p q", ret(n("q")))}, mark=mark))
            self.alike(cls({"m": method("", ret(NONE))}, mark=mark), cls({"m": method("p q", ret(NONE))}, mark=mark))

    def test_things_beyond_those_of_a_call(self):
        for mark in ("open", "closed"):
            self.alike(cls({"m": method("p", do(call(n("p"), A)))}, mark=mark),
                       cls({"m": method("p", do(call(n("p"), A, NONE)))}, mark=mark))
            self.alike(cls({"m": method("p", do(ask(ME, "k")))}, mark=mark),
                       cls({"m": method("p", do(ask(ME, "k", NONE, NONE)))}, mark=mark))

    def test_asks_of_itself(self):
        """An heir sees an ask; where there are no heirs, nothing does."""
        straight = {"m": method("", ret(A)), "k": method("", ret(A))}
        asking = {"m": method("", ret(ask(ME, "k"))), "k": method("", ret(A))}
        self.unlike(cls(straight), cls(asking))
        self.alike(cls(straight, mark="closed"), cls(asking, mark="closed"))
        self.assertIs(alike_without_heirs(cls(straight), cls(asking)), True)
        self.assertIs(alike_without_heirs(cls(straight), cls(asking, mark="closed")), True)
        self.unlike(cls({"m": method("", do(ask(ME, "k")))}), cls({"m": method("", throw(w("nomethod")))}))
        self.alike(cls({"m": method("", do(ask(ME, "k")))}, mark="closed"),
                   cls({"m": method("", throw(w("nomethod")))}, mark="closed"))

    def test_what_is_only_seen_while_a_frame_waits(self):
        """Two words are kept for a while; at the end all is as it was."""
        flag = {"m": method("p", keep("x", B), last((do(call(n("p"))),), (keep("x", A),))),
                "get": method("", ret(f("x")))}
        none = {"m": method("p", do(call(n("p")))), "get": method("", ret(f("x")))}
        for mark in ("open", "closed"):
            self.unlike(cls(flag, {"x": ("a", "b")}, mark=mark), cls(none, {"x": ("a", "b")}, mark=mark))
            del_flag = {"m": flag["m"], "get": method("", ret(A))}
            del_none = {"m": none["m"], "get": method("", ret(A))}
            self.alike(cls(del_flag, {"x": ("a", "b")}, mark=mark), cls(del_none, mark=mark))

    def test_what_is_only_seen_deep_down(self):
        """The count of the calls within one another is seen at the third one alone."""
        def counter(most):
            words = tuple("abcd"[:most])
            steps = ()
            for at in range(most - 1, 0, -1):
                steps = (cond(same(f("x"), w(words[at - 1])), (keep("x", w(words[at])),), steps),)
            back = ()
            for at in range(1, most):
                back = (cond(same(f("x"), w(words[at])), (keep("x", w(words[at - 1])),), back),)
            end = (cond(same(f("x"), w(words[-1])), (throw(w("full")),)),) if most < 4 else ()
            return cls({"m": method("p", *end, *steps, last((do(call(n("p"))),), back))}, {"x": words}, mark="closed")

        self.assertIsNone(unplain(counter(3)))
        self.unlike(counter(2), counter(3))
        self.alike(counter(3), counter(3))
        self.unlike(counter(3), counter(4))

    def test_what_is_only_seen_where_another_call_has_ended_meanwhile(self):
        changed = ("both", same(n("w"), A), same(f("x"), B))

        def made(word, look, put, mark):
            return cls({look: method("p", let("w", f("x")), do(call(n("p"))), cond(changed, (ret(w(word)),))),
                        put: method("p", do(call(n("p"))), keep("x", B))}, {"x": ("a", "b")}, mark=mark)

        for mark in ("open", "closed"):
            for names in (("c", "d"), ("d", "c")):
                self.unlike(made("a", *names, mark), made("b", *names, mark))
                self.alike(made("a", *names, mark), made("a", *names, mark))

    def test_the_numbers_of_what_is_called(self):
        one = {"m": method("p q", do(call(n("p"), n("q"))))}
        other = {"m": method("q p", do(call(n("q"), n("p"))))}
        third = {"m": method("p q", do(call(n("q"), n("p"))))}
        for mark in ("open", "closed"):
            self.alike(cls(one, mark=mark), cls(other, mark=mark))
            self.unlike(cls(one, mark=mark), cls(third, mark=mark))

    def test_what_goes_on_behind_a_last(self):
        one = {"m": method("p", last((ret(A),), (do(call(n("p"))),)))}
        other = {"m": method("p", do(call(n("p"))), ret(A))}
        third = {"m": method("p", attempt((do(call(n("p"))),), "e", ()), ret(A))}
        for mark in ("open", "closed"):
            self.alike(cls(one, mark=mark), cls(other, mark=mark))
            self.unlike(cls(one, mark=mark), cls(third, mark=mark))


class Facts(unittest.TestCase):
    def test_alike_to_itself_both_ways_and_through_a_third_one(self):
        third = cls({"turn": method("q", let("r", f("x")),
                                    attempt((keep("x", n("r")), throw(f("x"))), "e", (put("r", n("e")),)),
                                    cond(same(n("r"), A), (keep("x", B), ret(B))), keep("x", A), ret(f("x")))},
                    {"x": ("a", "b"), "y": ("c",)})
        made = [switch(), negated(), third]
        for one in made:
            for other in made:
                self.assertIs(alike(one, other), True)

    def test_open_ones_that_are_alike_are_alike_when_closed(self):
        self.assertTrue(alike(switch(), negated()))
        self.assertTrue(alike(switch("closed"), negated("closed")))
        self.assertTrue(alike_without_heirs(switch(), negated()))
        self.assertTrue(alike_without_heirs(switch(), negated("closed")))

    def test_a_method_that_throws_nomethod_is_as_none(self):
        for mark in ("open", "closed"):
            for block in ((throw(w("nomethod")),), (let("x", w("nomethod")), throw(n("x")))):
                one = cls({"m": method("p q", *block), **SWITCH}, {"x": ("a", "b")}, mark=mark)
                self.assertIs(alike(one, switch(mark)), True)
                self.assertIs(alike(switch(mark), one), True)
        self.assertFalse(alike(cls({"m": method("", ret(w("nomethod")))}), cls()))

    def test_renamed_names_and_fields(self):
        one = cls({"m": method("p", let("r", call(n("p"))), attempt((keep("x", n("r")),), "e", (keep("y", n("r")),)),
                               cond(same(f("x"), f("y")), (throw(f("y")),)))}, {"x": ("a", "b"), "y": ("c", "a")})
        other = cls({"m": method("r", let("p", call(n("r"))), attempt((keep("y", n("p")),), "x", (keep("x", n("p")),)),
                                 cond(same(f("y"), f("x")), (throw(f("x")),)))}, {"y": ("a", "b"), "x": ("c", "a")})
        for mark in ("open", "closed"):
            self.assertIs(alike((None, mark, *one[2:]), (None, mark, *other[2:])), True)

    def test_words_of_fields_that_no_standing_has(self):
        one = cls({"m": method("", ret(f("x")))}, {"x": ("a", "b"), "y": ("c", "d")})
        self.assertIs(alike(one, cls({"m": method("", ret(A))})), True)
        self.assertIs(alike(one, cls({"m": method("", ret(f("x")))}, {"x": ("a",)})), True)
        self.assertIs(alike(one, cls({"m": method("", ret(f("x")))}, {"x": ("b", "a")})), False)


class Tables(unittest.TestCase):
    def same(self, made, levels, waits):
        self.assertIsInstance(made, tuple)
        self.assertEqual(sorted((pair, sorted(pairs)) for pair, pairs in made[0]), sorted(levels))
        self.assertEqual(sorted(made[1], key=repr), sorted(waits, key=repr))

    def test_without_waits(self):
        self.same(table(cls(), cls()), [(((), ()), [((), ())])], [])
        first = (("a",), ("b",))
        for mark in ("open", "closed"):
            self.same(table(switch(mark), negated(mark)), [(first, [first, (("b",), ("a",))])], [])

    def test_with_waits(self):
        one = cls({"m": method("p", let("r", call(n("p"))), keep("x", B))}, {"x": ("a", "b")})
        other = cls({"m": method("q", do(call(n("q"))), cond(same(f("y"), B), (), (keep("y", B),)))}, {"y": ("a", "b")})
        first, second = (("a",), ("a",)), (("b",), ("b",))
        frame = ((("m", (0,), (("p", ("able", 0)),), ()),), 2)
        other_frame = ((("m", (0,), (("q", ("able", 0)),), ()),), 2)
        waits = [(frame, other_frame, first, first), (frame, other_frame, second, first),
                 (frame, other_frame, second, second)]
        for mark in ("open", "closed"):
            made = table((None, mark, *one[2:]), (None, mark, *other[2:]))
            self.same(made, [(first, [first, second]), (second, [second])], waits)

    def test_waits_that_go_on(self):
        one = cls({"m": method("p", do(call(n("p"))), attempt((do(ask(ME, "k")),), "e", (do(call(n("p"), n("e"))),)))})
        unit = ((), ())
        names = (("p", ("able", 0)),)
        frames = [((("m", (0,), names, ()),), 2), ((("m", (1, 0, 0), names, ()),), 3)]
        for value in (("able", 3), ("unable", 3), NONE):
            frames.append(((("m", (1, 1, 0), (("e", value), *names), ()),), 4))
        self.same(table(one, one), [(unit, [unit])], [(frame, frame, unit, unit) for frame in frames])
        closed = (None, "closed", *one[2:])
        names = (("e", w("nomethod")), ("p", ("able", 0)))
        frames = [frames[0], ((("m", (1, 1, 0), names, ()),), 3)]
        self.same(table(closed, closed), [(unit, [unit])], [(frame, frame, unit, unit) for frame in frames])

    def test_levels_begin_with_the_pairs_of_the_waits_alone(self):
        one = cls({"m": method("p", keep("x", B), do(call(n("p"))), keep("x", w("c")))}, {"x": ("a", "b", "c")})
        made = table(one, one)
        pairs = [(((word,), (word,))) for word in "abc"]
        self.same(made, [(pairs[0], pairs), (pairs[1], pairs[1:])],
                  [(*made[1][0][:2], pairs[1], begin) for begin in pairs[:2]])

    def test_lists_are_new(self):
        one = teller()
        made = table(one, one)
        ahead = copy.deepcopy(made)
        made[0][0][1].append("more")
        made[0].clear()
        made[1].clear()
        self.assertEqual(table(one, one), ahead)

    def test_arguments_stay(self):
        one, other = teller(), switch()
        ahead = copy.deepcopy((one, other))
        alike(one, other)
        made = table(one, one)
        held = copy.deepcopy(made)
        is_table(one, one, made)
        alike_without_heirs(one, other)
        self.assertEqual(((one, other), made), (ahead, held))


class Bounds(unittest.TestCase):
    def check(self, one, other, most, told):
        for function in (alike, table, alike_without_heirs):
            function(one, other, most=most)
            function(one, other, most=100000)
            if most > 1:
                with self.assertRaises(TooMany) as caught:
                    function(one, other, most=most - 1)
                self.assertEqual(caught.exception.most, most - 1)
        self.assertIs(alike(one, other, most=most), told)

    def test_more_pairs_than_waits(self):
        fields = {name: ("a", "b") for name in "xyz"}
        one = cls({name: method("p", keep(name, n("p"))) for name in "xyz"}, fields)
        self.assertEqual(measures(table(one, one)), (8, 0))
        self.check(one, one, 8, True)

    def test_more_waits_than_pairs(self):
        one = cls({"m": method("p q", do(call(n("p"))), do(call(n("q"))))})
        self.assertEqual(measures(table(one, one)), (1, 4))
        self.check(one, one, 4, True)
        self.check(switch(), negated(), 2, True)
        self.check(cls(), cls(), 1, True)

    def test_all_lists_together(self):
        one = teller()
        pairs, waits = measures(table(one, one))
        self.assertEqual((pairs, waits), (4, 4))
        self.check(one, one, 4, True)

    def test_also_if_an_event_is_unlike(self):
        fields = {name: ("a", "b") for name in "xyz"}
        one = cls({name: method("p", keep(name, n("p"))) for name in "xyz"}, fields)
        other = cls({"bad": method(""), **one[3]}, fields)
        self.check(one, other, 8, False)
        self.check(teller(), teller(EARLY), 4, False)

    def test_nothing_goes_on_behind_an_unlike_event(self):
        many = [do(call(n("p"))) for _ in range(11)]
        lets = [let(name, call(n("p"))) for name in "abcdefghijk"]
        one = cls({"m": method("p", do(call(n("p"), A)), *lets)})
        other = cls({"m": method("p", do(call(n("p"), B)), *many)})
        self.assertIs(alike(one, other, most=1), False)
        with self.assertRaises(TooMany):
            alike(one, one)
        self.assertIs(alike(other, other, most=12), True)
        with self.assertRaises(TooMany):
            alike(other, other, most=11)

    def test_most_is_2000_unless_told(self):
        names = "abcd"
        one = cls({"m": method("p", *[let(name, call(n("p"))) for name in names], do(call(n("p"))))})
        made = table(one, one, most=100000)
        self.assertEqual(measures(made), (1, 1 + 3 + 9 + 27 + 81))
        wide = cls({"m": method("p", *[let(name, call(n("p"), A, B)) for name in names], do(call(n("p"))))})
        self.assertEqual(measures(table(wide, wide)), (1, 1 + 5 + 25 + 125 + 625))
        wide = cls({"m": method("p", *[let(name, call(n("p"), A, B)) for name in names + "ef"], do(call(n("p"))))})
        for function in (alike, table, alike_without_heirs):
            with self.assertRaises(TooMany) as caught:
                function(wide, wide)
            self.assertEqual(caught.exception.most, 2000)
        self.assertIs(alike(wide, wide, most=19531), True)

    def test_is_table_has_no_bound(self):
        names = "abcde"
        wide = cls({"m": method("p", *[let(name, call(n("p"), A, B)) for name in names], do(call(n("p"))))})
        made = table(wide, wide, most=100000)
        self.assertGreater(len(made[1]), 2000)
        self.assertIs(is_table(wide, wide, made), True)
        made[1].pop()
        self.assertIs(is_table(wide, wide, made), False)


class Judged(unittest.TestCase):
    def setUp(self):
        self.cls = teller()
        self.made = table(self.cls, self.cls)
        self.first = (("a",), ("a",))
        self.second = (("b",), ("b",))

    def judged(self, thing):
        return is_table(self.cls, self.cls, thing)

    def test_in_any_order_and_twice(self):
        levels, waits = self.made
        self.assertIs(self.judged((levels[::-1], waits[::-1])), True)
        self.assertIs(self.judged(([(pair, pairs[::-1] + pairs) for pair, pairs in levels], waits * 2)), True)

    def test_whatever_is_left_out(self):
        levels, waits = self.made
        for at in range(len(levels)):
            self.assertIs(self.judged((levels[:at] + levels[at + 1:], waits)), False)
            pair, pairs = levels[at]
            for inner in range(len(pairs)):
                less = [*levels[:at], (pair, pairs[:inner] + pairs[inner + 1:]), *levels[at + 1:]]
                self.assertIs(self.judged((less, waits)), False)
        for at in range(len(waits)):
            self.assertIs(self.judged((levels, waits[:at] + waits[at + 1:])), False)
        self.assertIs(self.judged(([], [])), False)
        self.assertIs(self.judged((levels, [])), False)
        self.assertIs(self.judged(([], waits)), False)

    def test_two_levels_with_one_pair(self):
        levels, waits = self.made
        for level in levels:
            self.assertIs(self.judged((levels + [level], waits)), False)
        self.assertIs(self.judged((levels + [(self.first, [])], waits)), False)

    def test_more_levels_than_are_needed(self):
        one = cls({"m": method("", ret(A))}, {"x": ("a", "b", "c")})
        pairs = [((first,), (second,)) for first in "abc" for second in "abc"]
        self.assertEqual(table(one, one), ([(pairs[0], [pairs[0]])], []))
        self.assertIs(is_table(one, one, ([(pair, pairs) for pair in pairs], [])), True)
        self.assertIs(is_table(one, one, ([(pair, [pair]) for pair in pairs], [])), True)
        self.assertIs(is_table(one, one, ([(pair, pairs) for pair in pairs[1:]], [])), False)
        self.assertIs(is_table(one, one, ([(pairs[0], pairs[1:])], [])), False)
        self.assertIs(is_table(one, one, ([(pairs[0], pairs + [(("d",), ("a",))])], [])), False)

    def test_more_levels_ask_for_more_waits(self):
        one = cls({"m": method("p", do(call(n("p"))))}, {"x": ("a", "b")})
        pairs = [((word,), (word,)) for word in "ab"]
        levels, waits = table(one, one)
        self.assertEqual((levels, len(waits)), ([(pairs[0], [pairs[0]])], 1))
        more = levels + [(pairs[1], [pairs[1]])]
        self.assertIs(is_table(one, one, (more, waits)), False)
        frame, other = waits[0][:2]
        self.assertIs(is_table(one, one, (more, waits + [(frame, other, pairs[1], pairs[1])])), True)
        self.assertIs(is_table(one, one, (levels, waits + [(frame, other, pairs[1], pairs[1])])), False)
        self.assertIs(is_table(one, one, (more, waits + [(frame, other, pairs[1], pairs[1]),
                                                        (frame, other, pairs[1], pairs[0])])), False)
        wider = [(pairs[0], pairs), (pairs[1], [pairs[1]])]
        self.assertIs(is_table(one, one, (wider, [(frame, other, pairs[1], pairs[1]), *waits])), False)
        self.assertIs(is_table(one, one,
                               (wider, [(frame, other, pairs[1], pairs[1]), (frame, other, pairs[1], pairs[0]),
                                                  *waits])), True)

    def test_unlike_events_at_pairs_that_are_not_needed(self):
        levels, waits = self.made
        odd = (("a",), ("b",))
        for more in ([(odd, [odd])], [(odd, [odd, self.first, self.second])]):
            self.assertIs(self.judged((levels + more, waits)), False)

    def test_waits_that_nothing_asks_for(self):
        levels, waits = self.made
        frame, other, pair, begin = waits[0]
        (inner,), many = frame
        wrong = [((inner,), many + 1), ((inner, inner), many), ((), many), ((("none", *inner[1:]),), many),
                 (((inner[0], (5,), *inner[2:]),), many), (((inner[0], (), *inner[2:]),), many),
                 (((*inner[:2], (), ()),), many), (((*inner[:3], (("on",),)),), many), ((inner,), "two"), (), "frame",
                 7]
        for odd in wrong:
            self.assertIs(self.judged((levels, waits + [(odd, other, pair, begin)])), False)
            self.assertIs(self.judged((levels, waits + [(frame, odd, pair, begin)])), False)
            self.assertIs(self.judged((levels, [(odd, odd, pair, begin)] + waits[1:])), False)
        for odd in ((("a",), ("b",)), (("c",), ("c",)), ((), ()), (), "pair", 5):
            self.assertIs(self.judged((levels, waits + [(frame, other, odd, begin)])), False)
            self.assertIs(self.judged((levels, waits + [(frame, other, pair, odd)])), False)

    def test_tables_of_others(self):
        self.assertIs(is_table(teller(EARLY), teller(EARLY), self.made), False)
        self.assertIs(is_table(teller(), teller(EARLY), self.made), False)
        self.assertIs(is_table(switch(), negated(), self.made), False)
        one = (("a",), ("b",))
        made = ([(one, [one, (("b",), ("a",))])], [])
        self.assertIs(is_table(switch(), negated(), made), True)
        self.assertIs(is_table(negated(), switch(), made), False)
        self.assertIs(is_table(negated(), switch(), table(negated(), switch())), True)

    def test_a_table_with_an_unlike_event(self):
        """It is complete but for the event."""
        one = cls({"m": method("", ret(A))})
        other = cls({"m": method("", ret(B))})
        unit = ((), ())
        self.assertIs(is_table(one, one, ([(unit, [unit])], [])), True)
        self.assertIs(is_table(one, other, ([(unit, [unit])], [])), False)
        self.assertIs(is_table(cls(), other, ([(unit, [unit])], [])), False)

    def test_kinds(self):
        levels, waits = self.made
        wrong = [list(self.made), (levels, waits, []), (levels,), (tuple(levels), waits), (levels, tuple(waits)),
                 (dict((pair, pairs) for pair, pairs in levels), waits), (levels, None), (None, waits),
                 ([list(level) for level in levels], waits), ([(pair, tuple(pairs)) for pair, pairs in levels], waits),
                 ([(list(pair), pairs) for pair, pairs in levels], waits),
                 ([(pair, [list(inner) for inner in pairs]) for pair, pairs in levels], waits),
                 ([(pair, [tuple(list(part) for part in inner) for inner in pairs]) for pair, pairs in levels], waits),
                 ([(*level, ()) for level in levels], waits), ([level[:1] for level in levels], waits),
                 (levels + [None], waits), (levels, waits + [None]), (levels, [list(wait) for wait in waits]),
                 (levels, [wait[:3] for wait in waits]), (levels, [(*wait, ()) for wait in waits]),
                 (levels, [([*wait[0]], *wait[1:]) for wait in waits]), (levels + levels[:1], waits),
                 ([(pair, pairs + [None]) for pair, pairs in levels], waits)]
        for odd in wrong + ODD_VALUES + [body(), Play(self.cls, ["a", "b"])]:
            with self.subTest(odd):
                self.assertIs(self.judged(odd), False)
        for odd in ODD_VALUES:
            for thing in ((odd, odd), (levels, odd), (odd, waits), ([odd], waits), (levels, [odd]),
                          (levels + [(odd, [])], waits),
                          (levels + [(self.first, odd)], waits), (levels + [(self.first, [odd])], waits),
                          (levels, waits + [(odd, *waits[0][1:])]), (levels, waits + [(*waits[0][:3], odd)]),
                          ([(levels[0][0], levels[0][1] + [(odd, odd)]), *levels[1:]], waits)):
                with self.subTest(thing):
                    # Of these, the pair of two ("a",) alone is one.
                    self.assertIs(self.judged(thing),
                                  odd == ("a",) and thing[1] == waits and len(thing[0]) == len(levels))

    def test_flags_are_no_integers(self):
        one = cls({"m": method("p q", do(NONE), do(call(n("q"), n("p"))))})
        levels, waits = table(one, one)
        self.assertIs(is_table(one, one, (levels, waits)), True)

        def flagged(thing, number, flag):
            if isinstance(thing, tuple):
                return tuple(flagged(part, number, flag) for part in thing)
            return flag if thing == number else thing

        for number, flag in ((0, False), (1, True)):
            made = [flagged(wait, number, flag) for wait in waits]
            self.assertEqual(made, waits)
            self.assertIs(is_table(one, one, (levels, made)), False)


class Wrong(unittest.TestCase):
    PLAIN = cls({"m": method("")})
    CLOSED = cls({"m": method("")}, mark="closed")
    WRONG = [None, True, 0, "box", (), [], {}, deep("tuple"), deep("list"), deep("dict"), cls({}, {}, "top"), body(),
             cls({"m": method("", say("a"))}), (None, "open", {}), cls({"m": method("", do(ask(ME, "m")))})]

    def raises(self, error, attribute, value, function, *args, **more):
        with self.assertRaises(error) as caught:
            function(*args, **more)
        self.assertEqual(getattr(caught.exception, attribute), value)
        self.assertIs(type(getattr(caught.exception, attribute)), type(value))

    def test_classes(self):
        for wrong in self.WRONG:
            for function in (alike, table, alike_without_heirs):
                self.raises(NotPlain, "cls", wrong, function, wrong, self.PLAIN)
                self.raises(NotPlain, "cls", wrong, function, wrong, None, most=0)
                self.raises(NotPlain, "cls", wrong, function, self.PLAIN, wrong)
                self.raises(NotPlain, "cls", wrong, function, self.CLOSED, wrong, most=None)
            self.raises(NotPlain, "cls", wrong, is_table, wrong, self.PLAIN, None)
            self.raises(NotPlain, "cls", wrong, is_table, wrong, "other", None)
            self.raises(NotPlain, "cls", wrong, is_table, self.PLAIN, wrong, None)

    def test_marks(self):
        for one, other in ((self.PLAIN, self.CLOSED), (self.CLOSED, self.PLAIN)):
            for function in (alike, table):
                self.raises(BadMark, "cls", other, function, one, other)
                self.raises(BadMark, "cls", other, function, one, other, most=0)
            self.raises(BadMark, "cls", other, is_table, one, other, None)
            self.assertIs(alike_without_heirs(one, other), True)

    def test_numbers(self):
        for function in (alike, table, alike_without_heirs):
            for most in ODD_VALUES + [-1, 100001, 10 ** 30, "5", (5,)]:
                if most != 1 or isinstance(most, bool):
                    self.raises(BadNumber, "number", most, function, self.PLAIN, self.PLAIN, most=most)
            for most in (1, 2, 2000, 100000):
                self.assertTrue(function(self.PLAIN, self.PLAIN, most=most))
            with self.assertRaises(TypeError):
                function(self.PLAIN, self.PLAIN, 2000)

    def test_numbers_go_ahead_of_too_many(self):
        fields = {name: ("a", "b") for name in "xyz"}
        one = cls({name: method("p", keep(name, n("p"))) for name in "xyz"}, fields)
        self.raises(BadNumber, "number", 0, alike, one, one, most=0)
        self.raises(TooMany, "most", 1, alike, one, one, most=1)

    def test_marks_turned_to_closed_go_ahead(self):
        many = [let(name, call(n("p"))) for name in "abcdefgh"]
        one = cls({"m": method("p", let("r", ask(ME, "k", n("p"))), *[do(ask(ME, "k", n("p"))) for _ in range(5)]),
                   "k": method("p", *many)})
        with self.assertRaises(TooMany):
            alike_without_heirs(one, one, most=300)


class Depth(unittest.TestCase):
    """Nothing here grows with the length of what is done, but lists."""

    def long(self, mark):
        calls = (do(call(n("p"))),) * 12
        for _ in range(2):
            calls = (cond(same(A, A), calls),) * 12
        return cls({"m": method("p", *calls)}, mark=mark)

    def test_many_waits_behind_one_another(self):
        for mark in ("open", "closed"):
            one = self.long(mark)
            with limit_of_calls(80):
                self.assertIs(alike(one, one, most=1728), True)
                made = table(one, one)
                self.assertIs(is_table(one, one, made), True)
                with self.assertRaises(TooMany):
                    alike(one, one, most=1727)
            self.assertEqual(measures(made), (1, 1728))

    def test_many_waits_of_many_levels(self):
        calls = (do(call(n("p"))),) * 12
        one = cls({"m": method("p", *(cond(same(f("x"), A), calls),) * 12), "put": method("p", keep("x", n("p")))},
                  {"x": ("a", "b")})
        with limit_of_calls(80):
            made = table(one, one)
            self.assertIs(is_table(one, one, made), True)

    def test_what_would_never_end_is_judged_at_once(self):
        lets = [let(name, call(n("p"), A, B)) for name in "abcdefghijkl"]
        one = cls({"m": method("p", *lets)})
        with self.assertRaises(TooMany):
            alike(one, one, most=5000)
        unit = ((), ())
        self.assertIs(is_table(one, one, ([(unit, [unit])], [])), False)
        frame = ((("m", (0,), (("p", ("able", 0)),), ()),), 2)
        self.assertIs(is_table(one, one, ([(unit, [unit])], [(frame, frame, unit, unit)])), False)


if __name__ == "__main__":
    unittest.main()
