"""[2] and [20]: the bound that holds where none is told, for all that has one."""

import unittest

from shorthand import NONE, call, cls, cond, do, method, n, same, w
from standsfor.aparts import apart, fewest_moves
from standsfor.errors import TooMany
from standsfor.exchange import alike_names, exchanged, fewer_classes
from standsfor.merging import come_to, groups, idle_fields, trimmed, waiting
from standsfor.programs import Program
from standsfor.reach import ever, never_fails, shown
from standsfor.tables import alike, alike_without_heirs, table
from standsfor.tellings import telling


def calling(many):
    """A class with so many calls in one method, one behind the other, each of which waits."""
    block = tuple(do(call(n("p"))) for _ in range(many % 12))
    groups_of_calls = many // 12
    left = []
    while groups_of_calls:
        size = min(groups_of_calls, 11)
        left.append(cond(same(w("a"), w("a")), (cond(same(w("a"), w("a")), (do(call(n("p"))),) * 12),) * size))
        groups_of_calls -= size
    outer = []
    while left:
        outer.append(cond(same(w("a"), w("a")), tuple(left[:10])))
        left = left[10:]
    return cls({"m": method("p", cond(same(w("a"), w("a")), block), *outer)})


class Defaults(unittest.TestCase):
    def all(self, one):
        """What has a bound, called for the class."""
        program = Program({"a": one, "b": one}, ())
        return [lambda: alike(one, one), lambda: alike_without_heirs(one, one), lambda: table(one, one),
                lambda: apart(one, one), lambda: fewest_moves(one, one), lambda: telling(one, one),
                lambda: exchanged(program, "a", one), lambda: alike_names(program), lambda: fewer_classes(program),
                lambda: come_to(one), lambda: waiting(one), lambda: trimmed(one),
                lambda: ever(one, ["a"], ("gives", NONE)), lambda: shown(one, "m"), lambda: never_fails(one, "m")]

    def test_at_the_bound_and_one_above(self):
        one = calling(2000)
        self.assertEqual(len(waiting(one)), 2000)
        for action in self.all(one)[:-3] + self.all(one)[-2:]:
            action()
        # This takes more moves than the bound.
        for action in self.all(calling(2001)) + [lambda: ever(one, ["a"], ("gives", NONE))]:
            with self.assertRaises(TooMany) as caught:
                action()
            self.assertEqual(caught.exception.most, 2000)

    def test_squares(self):
        for many, told in ((44, True), (45, False)):
            for function in (groups, idle_fields):
                if told:
                    function(calling(many))
                else:
                    with self.assertRaises(TooMany) as caught:
                        function(calling(many))
                    self.assertEqual(caught.exception.most, 2000)


if __name__ == "__main__":
    unittest.main()
