"""[19] to [21]: many pairs of classes, made by chance from fixed seeds, as slow and straight ways judge them."""

import unittest

import naive
from plainmaker import PlainMaker
from rows import Row, printed
from standsfor.errors import TooMany
from standsfor.plain import words_of
from standsfor.plays import Play, played
from standsfor.programs import with_class
from standsfor.tables import alike, alike_without_heirs, is_table, table

MOST = 120


class Chance(unittest.TestCase):
    def pairs(self, seeds, **more):
        """Pairs of classes that are much like one another, with their makers."""
        for seed in seeds:
            maker = PlainMaker(seed, size=3, calls=2, **more)
            one = other = maker.cls()
            for _ in range(maker.chance.choice((0, 1, 1, 1, 2, 3))):
                other = maker.changed(other)
            yield maker, one, other

    def test_tables(self):
        seen = {"alike": 0, "unlike": 0, "many": 0, "told": 0}
        for maker, one, other in self.pairs(range(250)):
            try:
                told = alike(one, other, most=MOST)
            except TooMany:
                seen["many"] += 1
                continue
            seen["alike" if told else "unlike"] += 1
            with self.subTest((one, other)):
                self.assertIs(alike(other, one, most=MOST), told)
                self.check(one, other, told)
                seen["told"] += self.check_rows(one, other, told)
        for kind, many in seen.items():
            self.assertGreater(many, 10, (kind, seen))

    def check(self, one, other, told):
        lists, waits, like = naive.least(one, other)
        self.assertIs(told, like)
        most = max(len(lists), len(waits))
        made = table(one, other, most=most)
        if most > 1:
            for function in (alike, table):
                with self.assertRaises(TooMany):
                    function(one, other, most=most - 1)
        if not told:
            self.assertIsNone(made)
            return
        self.assertEqual(sorted(lists), sorted((pair, held) for pair, pairs in made[0] for held in pairs))
        self.assertEqual(len(made[1]), len(waits))
        self.assertEqual(set(made[1]), waits)
        self.assertIs(is_table(one, other, made), True)

    def check_rows(self, one, other, told):
        """Whether one of the rows of two moves tells them apart."""
        row = naive.told_apart(one, other, 2)
        if row is None:
            return False
        self.assertIs(told, False)
        words = sorted(set(words_of(one) + words_of(other)))
        events, others = played(one, words, row), played(other, words, row)
        self.assertEqual(events[:-1], others[:-1])
        self.assertNotEqual(events[-1], others[-1])
        lines = [printed(program) for program in self.programs(one, other, row)]
        self.assertNotEqual(lines[0], lines[1])
        return True

    def programs(self, one, other, moves):
        """A program that makes the moves to the one, and the same with the other in its place."""
        program = Row(one, moves, ("word",)).program(("kk", "jj", "zz"))
        return program, with_class(program, "box", other)

    def test_programs_with_the_other_in_the_place_of_the_one(self):
        for maker, one, other in self.pairs(range(4000, 4200)):
            try:
                told = alike(one, other, most=MOST)
            except TooMany:
                continue
            words = sorted(set(words_of(one) + words_of(other)))
            for _ in range(3):
                play, moves = Play(one, words), []
                for _ in range(10):
                    moves.append(maker.move(words, len(play.frames()), sorted(one[3])))
                    play.move(moves[-1])
                lines = [printed(program) for program in self.programs(one, other, moves)]
                with self.subTest((one, other, moves)):
                    self.assertTrue(not told or lines[0] == lines[1])

    def test_tables_that_are_changed(self):
        seen = {True: 0, False: 0}
        for maker, one, other in self.pairs(range(1000, 1120)):
            try:
                made = table(one, other, most=40)
            except TooMany:
                continue
            if made is None:
                continue
            for _ in range(8):
                thing = self.changed(maker, made)
                told = is_table(one, other, thing)
                with self.subTest((one, other, thing)):
                    self.assertIs(told, naive.is_closed(one, other, thing))
                seen[told] += 1
        self.assertGreater(min(seen.values()), 100, seen)

    def changed(self, maker, made):
        levels, waits = [(pair, list(pairs)) for pair, pairs in made[0]], list(made[1])
        pairs = [held for _, pairs in levels for held in pairs]
        for _ in range(maker.chance.choice((1, 1, 2))):
            kind = maker.pick(("less", "more", "pair", "level", "wait", "twice", "order"))
            at = maker.chance.randrange(len(levels))
            if kind == "less" and levels[at][1]:
                levels[at][1].pop(maker.chance.randrange(len(levels[at][1])))
            elif kind == "more":
                levels[at][1].append(maker.pick(pairs))
            elif kind == "pair":
                pair = maker.pick(pairs)
                levels.append((pair, [pair, maker.pick(pairs)]))
            elif kind == "level" and len(levels) > 1:
                levels.pop(at)
            elif kind == "wait" and waits:
                wait = waits.pop(maker.chance.randrange(len(waits)))
                if maker.chance.random() < 0.5:
                    waits.append((wait[0], maker.pick(waits + [wait])[1], maker.pick(pairs), maker.pick(pairs)))
            elif kind == "twice":
                levels[at][1].append(levels[at][1][-1] if levels[at][1] else levels[at][0])
                waits += waits[:1]
            else:
                maker.chance.shuffle(levels)
                maker.chance.shuffle(waits)
            if not levels:
                break
        return levels, waits

    def test_whoever_is_alike_is_so_both_ways_and_through_a_third_one(self):
        seen = {True: 0, False: 0}
        for maker, one, other in self.pairs(range(2000, 2090)):
            made = [one, other, maker.changed(other), maker.changed(one)]
            try:
                told = [[alike(first, second, most=MOST) for second in made] for first in made]
            except TooMany:
                continue
            for at in range(4):
                self.assertIs(told[at][at], True)
                for to in range(4):
                    self.assertIs(told[at][to], told[to][at])
                    seen[told[at][to]] += 1
                    for over in range(4):
                        self.assertTrue(told[at][to] or not (told[at][over] and told[over][to]))
        self.assertGreater(min(seen.values()), 200, seen)

    def test_open_ones_that_are_alike_are_alike_when_closed(self):
        seen = {(True, True): 0, (False, True): 0, (False, False): 0}
        for _, one, other in self.pairs(range(3000, 3250), mark="open"):
            closed = [(None, "closed", *made[2:]) for made in (one, other)]
            try:
                told = (alike(one, other, most=MOST), alike(*closed, most=MOST))
                self.assertIs(alike_without_heirs(one, other, most=MOST), told[1])
                self.assertIs(alike_without_heirs(one, closed[1], most=MOST), told[1])
            except TooMany:
                continue
            seen[told] += 1
        self.assertNotIn((True, False), seen)
        self.assertGreater(min(seen.values()), 3, seen)


if __name__ == "__main__":
    unittest.main()
