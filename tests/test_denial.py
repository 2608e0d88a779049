"""Promise [22]: selfword/ends.py, the text that no teller of ends tells rightly of."""

import unittest

from helper import (ODD_HEADS, broad, chain, comb, drawn_runs, measured, small_trees, tuples_all_through, walked,
                    word)
from selfword.ends import denial
from selfword.reading import read
from selfword.runner import run
from selfword.selfrun import selfrunner
from selfword.stands import begin

A, B, C = ((),), ((), ()), (((),), ())
U = selfrunner()
TREES = [(), A, B, C, (C, A, (), B), comb(4), broad(6), U]
# "It doesn't end"; some look at what they are run on, or beneath it.
TELL_LEAF = [read(signs) for signs in (
    "drop", "'()", "drop '()", "swap", "turn", "drop drop drop", "while [ part drop ]", "while [ drop ]",
    "part part", "part swap drop part", "fork [ drop '() | drop '(()) ]", "twin swap drop drop '()",
    "drop while [ '(()) ]", "!()", "part drop while [ part drop ] swap drop", "front drop twin")]
# "It ends".
TELL_TREE = [read(signs) for signs in (
    "", "drop '(())", "'((())())", "twin", "part", "part drop", "front", "swap swap", "turn turn turn",
    "drop fork [ | '(()()) ]", "fork [ drop '(()) | drop '() ]", "!((()()()()()()()()()))", "drop '(()) twin front",
    "'() swap while [ part turn swap front swap ] drop")]
# They come to no stand two stands later again.
FOR_EVER = [read(signs) for signs in (
    "while [ '(()) ]", "while [ '() front ]", "drop '(()) while [ '() drop ]", "while [ twin swap drop ]",
    "fork [ while [ '(()) drop ] | ]")]


def comes_again(passed):
    """The steps up to the first stand that is there two stands later again; None where no stand is."""
    for one, other in zip(passed, passed[2:]):
        if one[0] == other[0]:
            return one[2]
    return None


class Denials(unittest.TestCase):

    def denies(self, text, tree, most=3000):
        """Does the contrary of what the text tells of the denial; what it did, or None where the text goes on."""
        n = denial(text)
        told = run(text, n, most)
        if told[0] == "out":
            return None
        allowed = told[2] + 2000 + 10 * measured(text)[0]
        passed = walked(begin(n, tree), allowed + 2)
        if told[1] == ():
            self.assertEqual(passed[-1][0][0], ())
            self.assertLessEqual(passed[-1][2], allowed)
            self.assertEqual(run(n, tree, allowed)[0], "told")
            return "ends"
        self.assertLessEqual(comes_again(passed), allowed)
        self.assertEqual(passed[-1][0], passed[-3][0])
        self.assertEqual(run(n, tree, allowed + 10000)[:2], ("out", ()))
        return "comes again"

    def test_told_the_leaf(self):
        for text in TELL_LEAF:
            for tree in TREES:
                self.assertEqual(self.denies(text, tree), "ends")

    def test_told_another_tree(self):
        for text in TELL_TREE:
            for tree in TREES:
                self.assertEqual(self.denies(text, tree), "comes again")

    def test_for_ever(self):
        for text in FOR_EVER:
            for tree in TREES:
                self.assertIsNone(self.denies(text, tree))
                passed = walked(begin(denial(text), tree), 2000)
                self.assertNotEqual(passed[-1][0][0], ())
                self.assertIsNone(comes_again(passed))
                self.assertEqual(run(denial(text), tree, 30000)[:2], ("out", ()))

    def test_a_teller_that_runs_the_denial(self):
        # Run on n it runs n on the leaf; so it never comes to tell anything.
        text = read("'() swap front") + U
        self.assertEqual(run(text, denial(text), 500000)[:2], ("out", ()))
        for tree in ((), C):
            self.assertEqual(run(denial(text), tree, 500000)[:2], ("out", ()))

    def test_a_teller_by_budget(self):
        # A few heads of the denial's run on the leaf are looked at: not ended by then is told as a tree.
        opening = read("'() swap front") + U[:7]
        text = opening + U[7][1:] * 5
        self.assertEqual(self.denies(text, C, 50000), "comes again")
        # Of a text that tells the leaf at once, run by the selfrunner beside.
        text = (word(1), word(0, (read("drop"),))) + U
        self.assertEqual(self.denies(text, C), "ends")

    def test_drawn_texts(self):
        did = [self.denies(text, tree) for text, tree in drawn_runs(90, 500)]
        self.assertGreater(did.count("ends"), 50)
        self.assertGreater(did.count("comes again"), 100)

    def test_any_trees_as_texts(self):
        for text in small_trees(6) + [comb(20), chain(50), broad(40), (broad(9),) * 9]:
            self.assertIsNotNone(self.denies(text, C))

    def test_loads_and_firsts_of_any_kind(self):
        for head in [broad(count) for count in range(13)] + ODD_HEADS:
            for load in ((), A, (A, ()), (read("drop"), word(5)), read("part drop drop")):
                self.denies(((head,) + load,), C)
                self.denies(read("drop") + ((head,) + load,) + read("drop"), C)

    def test_large(self):
        for text, did in (((word(0, broad(50000)), word(1), word(1)), "ends"),
                          ((word(0, broad(5000)),), "comes again"),
                          ((word(0, chain(200)), word(1), word(0)), "ends")):
            for tree in (C, broad(90000), chain(290)):
                self.assertEqual(self.denies(text, tree), did)


class TheDenial(unittest.TestCase):

    def test_depth(self):
        for text in TELL_LEAF + TELL_TREE + FOR_EVER + TREES + [broad(99999), chain(230), comb(230)]:
            n = denial(text)
            self.assertLessEqual(measured(n)[1], measured(text)[1] + 60)
            self.assertTrue(tuples_all_through(n))
            self.assertTrue(denial(text) == n)

    def test_different_texts_different_denials(self):
        made = [denial(text) for text in small_trees(6)]
        self.assertEqual(len(set(made)), len(made))

    def test_a_denial_of_a_denial(self):
        # The inner denial is run on the outer one, but asks its teller of itself.
        for text in (read("drop '()"), read("drop")):
            inner = denial(text)
            told = run(inner, denial(inner), 1000)
            self.assertEqual(told[0], "told")
            expected = "out" if told[1] else "told"
            self.assertEqual(run(denial(inner), C, 10000)[0], expected)

    def test_arguments_by_name(self):
        self.assertEqual(denial(text=C), denial(C))
