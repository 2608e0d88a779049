"""Promise [17]: selfword/counts.py, towers of selfrunners."""

import random
import unittest

from helper import broad, chain, comb, drawn_runs, measured, tuples_all_through, word
from selfword.counts import tower, tower_tally, turned
from selfword.putting import put
from selfword.reading import read
from selfword.runner import run, tally_of
from selfword.selfrun import selfrunner
from selfword.stands import cost

A, C = ((),), (((),), ())
U = selfrunner()
LAY_AND_FRONT = (1, 0, 0, 0, 1, 0, 0, 0, 0, 0, 0, 0, 0, 0, 0)
LARGEST_BUDGET = 1000000
TEXTS = [read(signs) for signs in (
    "", "drop", "twin front", "part swap", "turn", "fork [ '(()) | ]", "while [ part drop ]", "drop while [ ] twin",
    "!() !((()()()()()()()()())()) swap", "part fork [ drop | '(()) ] while [ drop ]")]
TREES = [(), A, C, (C, A, ())]


class Towers(unittest.TestCase):

    def test_height_nought(self):
        for text in TEXTS + TREES + [U, broad(99999), chain(300)]:
            self.assertTrue(tower(0, text) == text)

    def test_word_by_word(self):
        for text in TEXTS + TREES + [U, broad(500), chain(280)]:
            for height in range(6):
                one, other = tower(height, text), tower(height + 1, text)
                self.assertTrue(other == (word(0, one), word(4)) + U)
                self.assertTrue(other == put(U, one))
                self.assertEqual(tower(height, text), one)

    def test_kinds(self):
        for height in range(7):
            self.assertTrue(tuples_all_through(tower(height, TEXTS[5])))
            self.assertEqual([type(number) for number in tower_tally(height, (3,) * 15)], [int] * 15)
            self.assertIs(type(tower_tally(height, (3,) * 15)), tuple)

    def test_a_tower_on_a_tower(self):
        for text in TEXTS:
            self.assertEqual(tower(2, tower(4, text)), tower(6, text))

    def test_large(self):
        text = (word(0, broad(99000)), word(1))
        built = tower(6, text)
        self.assertEqual(measured(built)[0], measured(text)[0] + 6 * (measured(U)[0] + 7))
        self.assertTrue(built[0][1:] == tower(5, text))

    def test_arguments_by_name(self):
        self.assertEqual(tower(text=TEXTS[1], height=2), tower(2, TEXTS[1]))
        self.assertEqual(tower_tally(tally=(1,) * 15, height=2), tower_tally(2, (1,) * 15))


class Tallies(unittest.TestCase):

    def test_height_nought(self):
        for tally in ((0,) * 15, tuple(range(15)), (10 ** 40,) * 15):
            self.assertEqual(tower_tally(0, tally), tally)

    def test_turned_and_a_lay_and_a_front(self):
        draw = random.Random(70)
        for most in (0, 1, 20, 10 ** 9, 10 ** 50):
            tally = tuple(draw.randint(0, most) for unused in range(15))
            told = tally
            for height in range(1, 7):
                told = tuple(one + other for one, other in zip(turned(told), LAY_AND_FRONT))
                self.assertEqual(tower_tally(height, tally), told)


class WhatTowersDo(unittest.TestCase):

    def does_the_same(self, text, tree, height, most=200):
        """Tells what the text tells, by just the tally that is told; whether it was within a budget."""
        own = run(text, tree, most)
        if own[0] == "out":
            return False
        tally = tower_tally(height, tally_of(text, tree, most))
        steps = cost(tally)
        if steps > LARGEST_BUDGET:
            return False
        built = tower(height, text)
        self.assertEqual(run(built, tree, steps), ("told", own[1], steps))
        self.assertEqual(run(built, tree, steps - 1)[:2], ("out", ()))
        self.assertEqual(tally_of(built, tree, steps), tally)
        return True

    def test_texts(self):
        for text in TEXTS:
            for tree in TREES:
                for height in (0, 1, 2):
                    self.assertTrue(self.does_the_same(text, tree, height))

    def test_height_three(self):
        for text in TEXTS[:4]:
            self.assertTrue(self.does_the_same(text, C, 3))

    def test_drawn_texts(self):
        done = [self.does_the_same(text, tree, 1) for text, tree in drawn_runs(71, 500)]
        self.assertGreater(done.count(True), 350)
        done = [self.does_the_same(text, tree, 2) for text, tree in drawn_runs(72, 60)]
        self.assertGreater(done.count(True), 40)

    def test_trees_of_any_size(self):
        for tree in (broad(5000), comb(90), chain(200)):
            self.assertTrue(self.does_the_same(read("part swap drop"), tree, 1))
            self.assertTrue(self.does_the_same(read("twin front"), tree, 2, 10000))

    def test_for_ever(self):
        for signs in ("while [ ]", "while [ '(()) drop ]", "'(()) while [ '() swap ]"):
            for height in range(5):
                self.assertEqual(run(tower(height, read(signs)), A, 50000)[:2], ("out", ()))
