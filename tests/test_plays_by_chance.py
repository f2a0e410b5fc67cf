"""[15] to [18]: many plays, made by chance from fixed seeds, as two other ways to play do them."""

import unittest

from outside import Outside
from plainmaker import PlainMaker
from rows import Row, printed
from standsfor.plain import words_of
from standsfor.plays import Play, played


def sight(play):
    return (play.standing(), play.frames(), len(play), play.events())


class Chance(unittest.TestCase):
    def test_as_generators_do_it(self):
        seen = {}
        for seed in range(600):
            maker = PlainMaker(seed)
            made = maker.cls()
            words = words_of(made) + ["extra"]
            play, other, sights = Play(made, words), Outside(made), []
            for _ in range(20):
                move = maker.move(words, len(play.frames()), sorted(made[3]))
                sights.append(sight(play))
                with self.subTest(seed):
                    event = play.move(move)
                    self.assertEqual(event, other.move(move))
                    self.assertEqual((play.standing(), play.frames()), (other.standing(), other.frames()))
                seen[event[0]] = seen.get(event[0], 0) + 1
                for inner, _ in play.frames():
                    seen[len(inner)] = seen.get(len(inner), 0) + 1
                    for kept in [kept for _, _, _, all_kept in inner for kept in all_kept]:
                        seen[kept[0]] = seen.get(kept[0], 0) + 1
            for expected in reversed(sights):
                play.back()
                self.assertEqual(sight(play), expected)
        for kind in ("gives", "throws", "calls", "asks", "on", "return", "raise", 1, 2):
            self.assertGreater(seen.get(kind, 0), 30, seen)

    def test_as_programs_do_it(self):
        """The surroundings that make the moves are a program of the language; its run prints the events."""
        seen = {}
        for seed in range(5000, 5400):
            maker = PlainMaker(seed, calls=4)
            made = maker.cls()
            words = words_of(made) + ["extra"]
            play, moves = Play(made, words), []
            for _ in range(12):
                moves.append(maker.move(words, len(play.frames()), sorted(made[3])))
                seen[play.move(moves[-1])[0]] = True
            self.assertEqual(played(made, words, moves), play.events())
            for kinds in (("word",), ("thing",), ("me", "word")):
                row = Row(made, moves, kinds)
                with self.subTest(seed):
                    told = row.lines(play.events())
                    self.assertEqual(printed(row.program(("kk", "jj", "zz"))), told + ["over"])
        self.assertEqual(sorted(seen), ["asks", "calls", "gives", "throws"])


if __name__ == "__main__":
    unittest.main()
