"""Promise [14]: selfword/selfrun.py, what the selfrunner tells."""

import unittest

from helper import ODD_HEADS, broad, chain, comb, drawn_runs, measured, small_trees, tuples_all_through, walked, word
from selfword.putting import put, putter
from selfword.reading import read
from selfword.runner import gone, run, tally_of
from selfword.selfrun import selfrunner
from selfword.stands import added, begin, cost, ended, event
from selfword.writing import show

A, B, C = ((),), ((), ()), (((),), ())
U = selfrunner()
# What a step of the text may take of the selfrunner, but for the parts copied and those of bodies.
EACH = 300
LARGEST_BUDGET = 1000000
ENDING = [read(signs) for signs in (
    "",
    "drop",
    "drop drop drop",
    "'(()()) '() '((())())",
    "twin twin front twin",
    "swap swap",
    "turn turn",
    "turn drop turn",
    "front front",
    "part part turn front",
    "fork [ '(()) | '(()()) ]",
    "part fork [ drop fork [ | twin ] | swap ] front",
    "while [ part drop ]",
    "while [ drop ] while [ drop ] twin",
    "while [ part while [ part drop ] drop ] '(())",
    "'() swap while [ part turn swap front swap ] drop",
    "drop fork [ drop | ]",
    "drop while [ drop ]",
    "!() !((())()) !((()()()()()()()()())) !((()()()()()()()()()()()())())",
    "drop !((()()()()()()())) while [ ]",
)]
FOR_EVER = [(read(signs), tree) for signs, tree in (
    ("while [ ]", A),
    ("while [ '(()) drop ]", B),
    ("while [ '(()) ]", C),
    ("while [ '() front ]", A),
    ("'(()) while [ while [ ] ]", ()),
    ("fork [ drop | '(()) while [ fork [ | drop ] ] ]", ()),
    ("while [ twin swap drop ] drop", (A, B)),
)]
TREES = [(), A, B, C, (C, A, (), B), comb(4), broad(6)]


class TheText(unittest.TestCase):

    def test_parts_and_depth(self):
        count, deep = measured(U)
        self.assertLessEqual(count, 5000)
        self.assertLessEqual(deep, 60)
        self.assertTrue(tuples_all_through(U))
        self.assertEqual(selfrunner(), U)

    def test_written_and_read(self):
        self.assertEqual(read(show(U)), U)


class WhatIsTold(unittest.TestCase):

    def tells_the_same(self, text, tree, most=120):
        """The selfrunner tells what the text tells, within what it may take; whether the text came to an end."""
        stand, tally, steps = walked(((text,), (tree,)), most)[-1]
        if stand[0]:
            return False
        allowed = EACH * (sum(tally[:13]) + 2) + tally[13] + tally[14]
        told = run(U, (text,) + tree, allowed)
        self.assertEqual(told[:2], ("told", stand[1][0] if stand[1] else ()))
        return True

    def test_texts_that_end(self):
        for text in ENDING:
            for tree in TREES:
                self.assertTrue(self.tells_the_same(text, tree))

    def test_drawn_texts(self):
        ending = [self.tells_the_same(text, tree) for text, tree in drawn_runs(40, 1500)]
        self.assertGreater(ending.count(True), 1000)

    def test_any_trees_as_texts(self):
        for text in small_trees(6):
            self.assertTrue(self.tells_the_same(text, B))
            self.assertTrue(self.tells_the_same(text, ()))
        for text in (comb(20), chain(50), broad(40), (broad(9),) * 9, (C, comb(3), chain(4))):
            self.assertTrue(self.tells_the_same(text, C))

    def test_any_trees_as_input(self):
        # Of the leaf both the first and the rest are the leaf.
        self.assertEqual(run(U, (), 1000)[:2], ("told", ()))
        for tree in small_trees(7):
            self.assertEqual(run(U, tree, 10000)[:2], run(tree[0] if tree else (), tree[1:], 100)[:2])

    def test_words_with_loads_and_firsts_of_any_kind(self):
        for head in [broad(count) for count in range(13)] + ODD_HEADS:
            for load in ((), A, B, (A, ()), (read("drop"), word(5)), ((), word(0, C)), read("part drop drop")):
                one = (head,) + load
                for tree in ((), (A, B, C)):
                    self.tells_the_same((one,), tree)
                    self.tells_the_same((word(5), one, word(0, A), one, one), tree)

    def test_for_ever(self):
        for text, tree in FOR_EVER:
            self.assertEqual(run(text, tree, 10000)[0], "out")
            for budget in (0, 1, 10, 300, 100000):
                self.assertEqual(run(U, (text,) + tree, budget)[:2], ("out", ()))

    def test_large(self):
        row = (A, B, C, ()) * 500
        text = read("'() swap while [ part turn swap front swap ] drop")
        self.assertTrue(run(U, (text,) + row, LARGEST_BUDGET)[:2] == ("told", tuple(reversed(row))))
        self.assertTrue(run(U, (read("twin drop"),) + broad(90000), 91000)[:2] == ("told", broad(90000)))
        self.assertTrue(run(U, (read("drop '(())") * 8000,) + A, LARGEST_BUDGET)[:2] == ("told", A))
        self.assertTrue(run(U, (read("part"), chain(290)), 1000)[:2] == ("told", chain(290)))
        self.assertTrue(run(U, ((word(0, comb(280)),),), 1000)[:2] == ("told", comb(280)))
        self.assertTrue(run(U, ((word(8, (word(1), word(0, broad(80000)), word(1))),),) + A, 90000)[:2] == ("told", ()))

    def test_with_the_text_put_in(self):
        for text in ENDING[:12]:
            for tree in TREES:
                self.assertEqual(run(put(U, text), tree, 10000)[:2], run(text, tree, 1000)[:2])

    def test_it_runs_the_putter(self):
        self.assertEqual(run(U, (putter(), read("drop"), C), 10000)[1], put(read("drop"), C))


class RunOnItself(unittest.TestCase):

    def test_once_in_the_other(self):
        for text in ENDING:
            for tree in ((), C):
                own = run(text, tree, 120)
                self.assertEqual(own[0], "told")
                self.assertEqual(run(U, (U, text) + tree, LARGEST_BUDGET)[:2], own[:2])

    def test_twice_in_the_other(self):
        for tree in ((), (U,), (U, U), (U, U, ()), (U, U, (), A), (U, U, read("drop"))):
            expected = run(tree[0] if tree else (), tree[1:], LARGEST_BUDGET)[:2]
            self.assertEqual(expected[0], "told")
            self.assertEqual(run(U, tree, LARGEST_BUDGET)[:2], expected)

    def test_for_ever(self):
        for text, tree in FOR_EVER:
            self.assertEqual(run(U, (U, text) + tree, 100000)[:2], ("out", ()))

    def test_it_goes_through_its_own_run(self):
        text = read("part fork [ drop | '(()) ] while [ drop ]")
        inner = begin(U, (text, A, B))
        end, tally = gone(inner, LARGEST_BUDGET)
        self.assertEqual(end, ((), run(text, (A, B), 100)[1:2]))
        passed = (0,) * 15
        stand = inner
        while not ended(stand):
            passed = added(passed, event(stand))
            stand = gone(stand, cost(event(stand)))[0]
        self.assertEqual(passed, tally)
        self.assertEqual(tally, tally_of(U, (text, A, B), LARGEST_BUDGET))
