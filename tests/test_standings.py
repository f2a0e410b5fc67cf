"""[14]: the standings of plain classes."""

import unittest

from shorthand import ME, ask, body, cls, deep, do, keep, method, say, w
from standsfor.errors import NotPlain
from standsfor.standings import first_standing, standings

WRONG = [None, (), 5, deep("tuple"), cls({"m": method("", say("a"))}), cls({}, {}, "top"), body(),
         cls({"m": method("", do(ask(ME, "m")))})]


class Standings(unittest.TestCase):
    def test_in_the_order_of_fields_and_of_words(self):
        made = cls({}, {"y": ("b", "a", "c"), "x": ("q", "p")})
        self.assertEqual(first_standing(made), ("q", "b"))
        self.assertEqual(standings(made), [("q", "b"), ("q", "a"), ("q", "c"), ("p", "b"), ("p", "a"), ("p", "c")])

    def test_order_of_the_keys_means_nothing(self):
        one = cls({}, {"c": ("a", "b"), "ab": ("b", "a"), "b": ("c",)})
        other = cls({}, {"ab": ("b", "a"), "b": ("c",), "c": ("a", "b")})
        self.assertEqual(standings(one), [("b", "c", "a"), ("b", "c", "b"), ("a", "c", "a"), ("a", "c", "b")])
        self.assertEqual(standings(one), standings(other))
        self.assertEqual(first_standing(other), ("b", "c", "a"))

    def test_without_fields(self):
        self.assertEqual(first_standing(cls()), ())
        self.assertEqual(standings(cls()), [()])

    def test_all_of_them(self):
        made = cls({"m": method("", keep("x", w("d")))}, {name: tuple("dcba") for name in "xyz"})
        told = standings(made)
        self.assertEqual(len(told), 64)
        self.assertEqual(len(set(told)), 64)
        self.assertEqual(told, sorted(told, reverse=True))
        self.assertEqual((told[0], told[-1]), (tuple("ddd"), tuple("aaa")))

    def test_lists_are_new(self):
        made = cls({}, {"x": ("a", "b")})
        standings(made).append("more")
        self.assertEqual(standings(made), [("a",), ("b",)])

    def test_what_no_plain_class_is(self):
        for function in (first_standing, standings):
            for wrong in WRONG:
                with self.assertRaises(NotPlain) as caught:
                    function(wrong)
                self.assertEqual(caught.exception.cls, wrong)


if __name__ == "__main__":
    unittest.main()
