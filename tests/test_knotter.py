"""Promises [19] and [21]: selfword/knots.py, the knotter and the selfteller."""

import unittest

from helper import (KNOWN, TELLS_IT, TELLS_IT_AHEAD, broad, chain, comb, drawn_runs, measured, small_trees,
                    tuples_all_through, word)
from selfword.brackets import read_tree, show_tree
from selfword.counts import tower, turned
from selfword.knots import knot, knotter, selfteller
from selfword.reading import read
from selfword.runner import run, tally_of
from selfword.selfrun import selfrunner
from selfword.stands import cost
from selfword.writing import show

A, B, C = ((),), ((), ()), (((),), ())
U = selfrunner()
N, S = knotter(), selfteller()
TREES = [(), A, B, C, (C, A, (), B), comb(9), broad(30)]


class TheKnotter(unittest.TestCase):

    def tells_the_knot(self, text):
        most = 10000 + 10 * measured(text)[0]
        self.assertTrue(run(N, text, most)[:2] == ("told", knot(text)))

    def test_depth(self):
        self.assertLessEqual(measured(N)[1], 150)
        self.assertTrue(tuples_all_through(N))
        self.assertEqual(knotter(), N)

    def test_texts(self):
        for signs in ("", "drop", "twin front", "while [ ]", "fork [ part | '() ] twin", "!()", TELLS_IT,
                      TELLS_IT_AHEAD, "!((()()()()()()()()())()) swap", "while [ part drop ] '(())"):
            self.tells_the_knot(read(signs))

    def test_any_trees(self):
        for tree in small_trees(7) + TREES + [U, N, S, knot(U), tower(6, C)]:
            self.tells_the_knot(tree)

    def test_drawn_texts(self):
        for text, unused in drawn_runs(82, 200):
            self.tells_the_knot(text)

    def test_large_and_deep(self):
        for tree in (broad(99999), chain(250), comb(250), (word(0, chain(90)),) * 1000, (broad(99),) * 999):
            self.tells_the_knot(tree)
        for name, (tree, unused, unasked) in KNOWN.items():
            with self.subTest(name):
                self.tells_the_knot(tree)

    def test_its_own_knot(self):
        self.assertTrue(run(N, N, 50000)[1] == knot(N))

    def test_the_selfrunner_runs_it(self):
        text = read(TELLS_IT)
        tally = turned(tally_of(N, text, 10000))
        self.assertTrue(run(U, (N,) + text, cost(tally)) == ("told", knot(text), cost(tally)))


class TheSelfteller(unittest.TestCase):

    def test_parts_and_depth(self):
        count, deep = measured(S)
        self.assertLessEqual(count, 2000)
        self.assertLessEqual(deep, 60)
        self.assertTrue(tuples_all_through(S))
        self.assertEqual(selfteller(), S)

    def test_tells_itself(self):
        for tree in TREES + [S, U, N, (S, S), broad(90000), chain(290)]:
            told = run(S, tree, 2000)
            self.assertEqual(told[:2], ("told", S))
            self.assertEqual(run(S, tree, told[2]), told)
            self.assertEqual(run(S, tree, told[2] - 1)[:2], ("out", ()))

    def test_told_and_run_again(self):
        again = run(S, C, 2000)[1]
        for tree in TREES:
            self.assertEqual(run(again, tree, 2000), run(S, tree, 2000))

    def test_written_and_read(self):
        self.assertEqual(read(show(S)), S)
        self.assertEqual(read_tree(show_tree(S)), S)
        self.assertEqual(show(read(show(S))), show(S))

    def test_no_leaf(self):
        # The leaf is a text that would tell itself, but only on itself.
        self.assertNotEqual(S, ())
        self.assertNotEqual(run(S, (), 2000)[1], ())
