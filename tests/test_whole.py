"""What all modules say of one class and of its programs, side by side."""

import unittest

from plainmaker import PlainMaker
from rows import Row, printed
from standsfor.aparts import apart, fewest_moves, is_apart
from standsfor.desks import Desk
from standsfor.errors import NotAlike, TooMany
from standsfor.exchange import alike_names, exchanged, fewer_classes, needless_methods
from standsfor.merging import come_to, groups, idle_fields, is_merge, trimmed, waiting
from standsfor.plain import is_plain, methods_of, unplain, words_of
from standsfor.plays import Play, played
from standsfor.programs import Program, with_class
from standsfor.reach import ever, never_fails, shown
from standsfor.reading import read_program
from standsfor.runs import run
from standsfor.standings import first_standing, standings
from standsfor.tables import alike, is_table, table
from standsfor.tellings import is_telling, parts, telling
from standsfor.texts import event_text, program_text

MOST = 60


class Whole(unittest.TestCase):
    def made(self, seeds):
        """Makers with classes that are small enough, each with one that is much like it."""
        for seed in seeds:
            maker = PlainMaker(seed, size=3, calls=2)
            one = maker.cls()
            other = maker.changed(one)
            try:
                alike(one, other, most=MOST)
                come_to(one, most=MOST)
                come_to(other, most=MOST)
            except TooMany:
                continue
            with self.subTest((one, other)):
                yield maker, one, other

    def test_classes_that_are_alike_and_others(self):
        seen = {True: 0, False: 0}
        for _, one, other in self.made(range(20000, 20080)):
            told = alike(one, other, most=MOST)
            seen[told] += 1
            program = Program({"box": one, "other": other}, (("do", ("new", "box")),))
            if told:
                self.check_alike(one, other, program)
            else:
                self.check_unlike(one, other, program)
            self.assertIs(len(alike_names(program, most=MOST)) == 1, told)
            self.assertIs(fewer_classes(program, most=MOST) == program, not told)
        self.assertGreater(min(seen.values()), 3, seen)

    def check_alike(self, one, other, program):
        self.assertIs(is_table(one, other, table(one, other, most=MOST)), True)
        self.assertIsNone(apart(one, other, most=MOST))
        self.assertIsNone(fewest_moves(one, other, most=MOST))
        self.assertIsNone(telling(one, other, most=MOST))
        self.assertEqual(exchanged(program, "box", other, most=MOST), with_class(program, "box", other))
        if words_of(one) == words_of(other):
            for method in set(methods_of(one)) & set(methods_of(other)):
                self.assertEqual(shown(one, method, most=MOST), shown(other, method, most=MOST))

    def check_unlike(self, one, other, program):
        self.assertIsNone(table(one, other, most=MOST))
        row = apart(one, other, most=MOST)
        self.assertEqual(len(row), fewest_moves(one, other, most=MOST))
        told = telling(one, other, most=MOST)
        self.assertIs(is_telling(one, other, told), True)
        self.assertEqual(read_program(program_text(told)), told)
        self.assertEqual(needless_methods(told, "box"), self.never_asked(told, one))
        line = parts(told, "box", other)
        lines, others = run(told)[0], run(with_class(told, "box", other))[0]
        self.assertEqual(lines[:line], others[:line])
        self.assertNotEqual(lines[:line + 1], others[:line + 1])
        with self.assertRaises(NotAlike) as caught:
            exchanged(program, "box", other, most=MOST)
        self.assertIs(is_apart(one, other, caught.exception.moves), True)
        # The last event of the row is one that the other class needs no fewer moves for.
        words = sorted(set(words_of(one) + words_of(other)))
        event = played(one, words, row)[-1]
        self.assertLessEqual(len(ever(one, words, event, most=1000)), len(row))

    def never_asked(self, program, one):
        text = program_text(program)
        return [name for name in sorted(one[3]) if f"!{name}(" not in text]

    def test_a_class_and_its_trimmed_one(self):
        for maker, one, _ in self.made(range(21000, 21050)):
            less = trimmed(one, most=MOST)
            self.assertIsNone(unplain(less))
            self.assertIs(alike(one, less, most=1000), True)
            self.assertEqual(come_to(less, most=MOST), come_to(one, most=MOST))
            self.assertEqual(first_standing(less), first_standing(one))
            self.assertLessEqual(set(come_to(one, most=MOST)), set(standings(less)))
            self.assertLessEqual(set(standings(less)), set(standings(one)))
            self.assertLessEqual(len(waiting(less, most=MOST)), len(waiting(one, most=MOST)))
            program = Program({"box": one, "less": less}, ())
            self.assertEqual(alike_names(program, most=1000), [("box", "less")])
            self.assertEqual(fewer_classes(program, most=1000), Program({"box": one}, ()))

    def test_standings_that_are_one(self):
        for maker, one, _ in self.made(range(22000, 22080)):
            try:
                found = groups(one, most=400)
            except TooMany:
                continue
            self.assertEqual(sorted(standing for group in found for standing in group), come_to(one, most=MOST))
            self.assertLessEqual(set(idle_fields(one, most=400)), set(one[2]))
            words = words_of(one)
            for group in found:
                for standing in group[1:]:
                    # A thing that begins in one of them is alike to one that begins in the other.
                    self.assertIs(alike(self.begun(one, group[0]), self.begun(one, standing), most=1000), True)
            self.assertLessEqual(set(words), set(words_of(one)))
            pairs = [(standing, standing) for standing in standings(one)]
            frames = [(frame, frame) for frame in waiting(one, most=MOST)]
            if len(come_to(one, most=MOST)) == len(pairs) and not frames:
                self.assertIs(is_merge(one, (pairs, frames)), True)

    def begun(self, one, standing):
        """The class whose things begin in this standing."""
        fields = {}
        for field, word in zip(sorted(one[2]), standing):
            fields[field] = (word, *[other for other in one[2][field] if other != word])
        return (*one[:2], fields, one[3])

    def test_what_is_shown_comes(self):
        for maker, one, _ in self.made(range(23000, 23025)):
            words = words_of(one)
            moves, waits, asked = [], 0, []
            play = Play(one, words)
            for _ in range(8):
                move = maker.move(words, waits, methods_of(one))
                event = play.move(move)
                waits = len(play.frames())
                if move[0] == "ask":
                    asked.append(move[1])
                moves.append(move)
                method = asked[-1]
                if event[0] in ("gives", "throws"):
                    asked.pop()
                self.assertLessEqual(len(ever(one, words, event, most=1000)), len(moves))
                if method in one[3]:
                    self.assertIn(event_text(event), shown(one, method, most=MOST))
                    self.assertTrue(event[0] != "throws" or not never_fails(one, method, most=MOST))
                self.assertIn(play.standing(), come_to(one, most=MOST))
                self.assertLessEqual(set(play.frames()), set(waiting(one, most=MOST)))

    def test_a_desk_that_keeps_it_all(self):
        many = 0
        for maker, one, other in self.made(range(24000, 24060)):
            if not alike(one, other, most=MOST):
                continue
            words, waits, moves = sorted(set(words_of(one) + words_of(other))), 0, []
            play = Play(one, words)
            for _ in range(6):
                moves.append(maker.move(words, len(play.frames()), methods_of(one)))
                play.move(moves[-1])
            program = Row(one, moves, ("word",)).program(("kk", "jj", "zz"))
            program = with_class(with_class(program, "twin", other), "trim", trimmed(one, most=MOST))
            text = program_text(program)
            desk = Desk()
            desk.put("first", program)
            desk.put("again", read_program(text))
            self.assertEqual(desk.program("first"), desk.program("again"))
            desk.exchange("again", "box", other)
            self.assertEqual(desk.program("again").classes["box"], other)
            desk.exchange("again", "box", trimmed(one, most=MOST))
            desk.lessen("again")
            names = sorted(desk.program("again").classes)
            self.assertEqual((sum(is_plain(made) for made in program.classes.values()) - len(names) > 0,
                              "box" in names, "twin" in names), (True, True, False))
            self.assertEqual(printed(desk.program("again")), printed(desk.program("first")))
            for _ in range(3):
                desk.undo()
            self.assertEqual(program_text(desk.program("again")), text)
            many += 1
        self.assertGreater(many, 8)


if __name__ == "__main__":
    unittest.main()
