"""Promises [1] and [2], over the whole program: its parts together."""

import unittest

from helper import TELLS_IT_AHEAD, broad, comb, drawn_runs, spelling, tuples_all_through, word, written
from selfword.brackets import read_tree, show_tree
from selfword.counts import tower, tower_tally, turned
from selfword.desk import answered
from selfword.ends import denial
from selfword.knots import knot, knot_tally, knots, knotter, selfteller
from selfword.putting import put, putter
from selfword.reading import read
from selfword.runner import gone, run, tally_of
from selfword.selfrun import selfrunner, shown
from selfword.stands import added, begin, cost, ended, event, next_of
from selfword.writing import show

A, B, C = ((),), ((), ()), (((),), ())
U = selfrunner()
LARGEST_BUDGET = 1000000
TEXTS = [read(signs) for signs in (
    "", "drop '(())", "twin front", "part swap drop", "turn", "fork [ '(()) | '(()()) ]", "while [ part drop ]",
    "'() swap while [ part turn swap front swap ] drop", "!() !((()()()()()()()()())()) front")]
TREES = [(), A, C, (C, A, (), B)]


class TheDeskThroughTheSelfrunner(unittest.TestCase):

    def test_texts(self):
        for text in TEXTS:
            for tree in TREES:
                own = tally_of(text, tree, 1000)
                z = written((text,) + tree)
                steps = cost(turned(own))
                told = answered(spelling(text), written(tree), 1000).split()
                self.assertEqual(told[::2], ["told", str(cost(own))])
                self.assertEqual(answered(show(U), z, steps), " ".join(["told", told[1], str(steps)]))
                self.assertEqual(answered(spelling(U), z, steps), answered(show(U), z, steps))
                self.assertEqual(answered(show(U), z, steps - 1).split()[0], "out")

    def test_for_ever(self):
        z = written((read("while [ '(()) drop ]"), ()))
        self.assertEqual(answered(show(U), z, 12345), "out 12345")

    def test_towers_and_knots(self):
        for text in TEXTS[:4]:
            tally = tower_tally(2, tally_of(text, C, 1000))
            expected = ["told", written(run(text, C, 1000)[1]), str(cost(tally))]
            self.assertEqual(answered(show(tower(2, text)), written(C), cost(tally)).split(), expected)
        q = knot(read(TELLS_IT_AHEAD))
        self.assertEqual(answered(show(q), written(C), 100000).split()[:2], ["told", written((q,) + C)])
        self.assertEqual(answered(show(selfteller()), "(())", 2000).split()[1], show_tree(selfteller()))


class TheSelfrunnerOnItself(unittest.TestCase):

    def test_tallies(self):
        for text in TEXTS:
            for tree in TREES[:3]:
                twice = turned(turned(tally_of(text, tree, 1000)))
                if cost(twice) <= LARGEST_BUDGET:
                    self.assertEqual(tally_of(U, (U, text) + tree, cost(twice)), twice)
                    told = run(U, (U, text) + tree, cost(twice))
                    self.assertEqual(told, ("told", run(text, tree, 1000)[1], cost(twice)))

    def test_three_times(self):
        for text in TEXTS[:3]:
            tally = turned(turned(turned(tally_of(text, A, 100))))
            told = run(U, (U, U, text) + A, cost(tally))
            self.assertEqual(told, ("told", run(text, A, 100)[1], cost(tally)))

    def test_stands_of_stands(self):
        text, tree = read("part fork [ drop | '(()) ]"), (A, B)
        stand, inner = begin(U, (U, text) + tree), begin(U, (text,) + tree)
        while not ended(stand):
            if shown(stand) is not None:
                self.assertEqual(shown(stand), inner)
                inner = None if ended(inner) else next_of(inner)
            stand = next_of(stand)
        self.assertIsNone(inner)

    def test_the_selfrunner_alone(self):
        for tree in ((), (U,), (U, U)):
            own = run(tree[0] if tree else (), tree[1:], LARGEST_BUDGET)
            self.assertEqual(run(U, tree, LARGEST_BUDGET)[:2], own[:2])


class TextsOfTheProgramTogether(unittest.TestCase):

    def test_a_knot_that_puts_its_own_text_into_a_tree(self):
        text = read(TELLS_IT_AHEAD)
        q = knot(text)
        for tree in TREES + [q, U]:
            one, other = tally_of(text, q, 1000), tally_of(run(text, q, 1000)[1], tree, 1000)
            tally = knot_tally(text, one, other)
            self.assertTrue(run(q, tree, cost(tally)) == ("told", (q,) + tree, cost(tally)))
            self.assertEqual(tally_of(q, tree, cost(tally)), tally)

    def test_a_knot_that_puts_its_own_text_into_a_text(self):
        # What is made has q for the second item of its input, and the putter put it into the first.
        inner = read("swap part turn turn swap front swap front") + putter()
        text = read("'() front") + (word(0, inner), word(3), word(4))
        q = knot(text)
        for first in TEXTS:
            self.assertTrue(run(q, (first, A), 100000)[1] == put(first, q))

    def test_the_selfrunner_and_towers_on_the_selfteller(self):
        s = selfteller()
        for tree in TREES + [s, broad(500)]:
            own = tally_of(s, tree, 2000)
            steps = cost(turned(own))
            self.assertEqual(run(U, (s,) + tree, steps), ("told", s, steps))
            for height in (1, 2):
                steps = cost(tower_tally(height, own))
                self.assertEqual(run(tower(height, s), tree, steps), ("told", s, steps))

    def test_the_selfrunner_on_the_knotter_and_on_knots(self):
        z = (knotter(),) + TEXTS[2]
        self.assertTrue(run(U, z, LARGEST_BUDGET)[1] == knot(TEXTS[2]))
        both = read("'() front '() swap front")
        for q in knots(both, both):
            self.assertTrue(run(U, (q,) + C, LARGEST_BUDGET)[1] == knots(both, both))

    def test_the_selfrunner_on_denials(self):
        for signs, told in (("drop", "told"), ("swap", "told"), ("", "out"), ("drop '(())", "out")):
            n = denial(read(signs))
            self.assertEqual(run(U, (n,) + C, 100000)[0], told)
            self.assertEqual(run(tower(1, n), C, 100000)[0], told)

    def test_putting_is_running_with_it(self):
        for text, tree in drawn_runs(110, 100):
            for p in (text, put(text, C), tower(1, text)):
                one, other = gone(begin(put(p, tree), A), 202), gone(begin(p, (tree,) + A), 200)
                self.assertEqual(one[0], other[0])


class KindsAndNothingKept(unittest.TestCase):

    def told(self):
        """One answer of everything, in a tuple."""
        tally, stand = tuple(range(15)), begin(TEXTS[2], C)
        return (turned(tally), tower(2, C), tower_tally(2, tally), knot(C), knot_tally(C, tally, tally), knotter(),
                knots(C, A), selfteller(), denial(C), answered("drop", "()", 9), selfrunner(), putter(), put(C, A),
                run(TEXTS[2], C, 100), tally_of(TEXTS[2], C, 100), gone(stand, 3), next_of(stand), event(stand),
                cost(tally), added(tally, tally), show(TEXTS[5]), read("twin"), show_tree(C), read_tree("(())"))

    def test_kinds(self):
        waiting = [self.told()]
        while waiting:
            part = waiting.pop()
            self.assertIn(type(part), (tuple, int, str))
            if type(part) is tuple:
                waiting.extend(part)

    def test_trees_all_through(self):
        for tree in (tower(3, C), knot(C), knotter(), knots(C, A), selfteller(), denial(C)):
            self.assertTrue(tuples_all_through(tree))

    def test_asked_again(self):
        before = self.told()
        for tree in (comb(5), U):
            knot(tree)
            denial(tree)
            run(U, (tree,), 1000)
        self.assertTrue(self.told() == before)
