"""Promise [23]: selfword/desk.py, runs that are asked for and answered in writing."""

import unittest

from helper import broad, chain, comb, doubled, drawn_runs, spelling, walked, word, written
from selfword.desk import answered
from selfword.errors import NoText, NoTree, SelfError
from selfword.stands import begin

ABOUT = "'() swap while [ part turn swap front swap ] drop"
BAD_TEXTS = ["drop ", " drop", "drop  drop", "dropp", "Drop", "'", "'(", "'())", "' ()", "fork [ drop ]",
             "while [ drop", "fork", "!(())", "!((()))", "[ ]", "]", "|", "()", "lay", "drop\n", "!", "while [  ]",
             "fork [ | | ]"]
BAD_TREES = ["", " ", "(", ")", "())", "(()", "()()", "( )", "() ", " ()", "[]", "()\n", "x", "'()", "drop", "(())("]
NO_TEXTS = [None, 0, 7, True, (), ((),), [], ["drop"], {}, b"drop", 1.5]


class Answers(unittest.TestCase):

    def test_by_hand(self):
        for asked, answer in (
                (("", "()", 1), "told () 1"),
                (("", "(()(()))", 10), "told (()(())) 1"),
                (("drop", "((()))", 2), "told () 2"),
                (("'(())", "()", 100), "told (()) 2"),
                (("twin front", "(())", 100), "told ((())()) 4"),
                (("part", "((())())", 5), "told (()) 2"),
                (("fork [ '() | '(()()) ] front", "(())", 9), "told (()()) 5"),
                (("fork [ '() | '(()()) ] front", "()", 9), "told ((()())) 5"),
                (("while [ part drop ]", "(()()())", 100), "told () 14"),
                (("!((()()()()()()()()()))", "(())", 100), "told (()) 2"),
                ((ABOUT, "(()(())(()()))", 1000), "told ((()())(())()) 26")):
            self.assertEqual(answered(*asked), answer)

    def test_out(self):
        for asked, answer in (
                (("", "()", 0), "out 0"),
                (("drop", "(())", 1), "out 1"),
                (("drop", "(())", 0), "out 0"),
                (("twin", "(()()())", 3), "out 0"),
                (("drop twin drop", "(())", 3), "out 3"),
                (("while [ ]", "(())", 7), "out 7"),
                (("while [ ]", "(())", 1000), "out 1000"),
                (("while [ twin drop ]", "(()()())", 11), "out 8"),
                ((ABOUT, "(()(())(()()))", 25), "out 25")):
            self.assertEqual(answered(*asked), answer)

    def test_each_budget(self):
        for signs, tree in ((ABOUT, ((), ((),))), ("twin front twin", comb(2)), ("while [ '(()) drop ]", ((),))):
            stands = walked(((self.text_of(signs)), (tree,)), 60)
            for budget in range(40):
                within = [passed for passed in stands if passed[2] <= budget][-1]
                if within[0][0]:
                    expected = "out " + str(within[2])
                else:
                    expected = "told " + written(within[0][1][0]) + " " + str(within[2])
                self.assertEqual(answered(signs, written(tree), budget), expected)

    def text_of(self, signs):
        """The texts still to be gone at the begin, without the program's own reading."""
        texts = {ABOUT: (word(0), word(3), word(8, tuple(word(sort) for sort in (5, 6, 3, 4, 3))), word(1)),
                 "twin front twin": (word(2), word(4), word(2)),
                 "while [ '(()) drop ]": (word(8, (word(0, ((),)), word(1))),)}
        self.assertEqual(spelling(texts[signs]), signs)
        return (texts[signs],)

    def test_drawn_runs(self):
        kinds = {"told": 0, "out": 0}
        for text, tree in drawn_runs(100, 500):
            stand, unused, steps = walked(begin(text, tree), 80)[-1]
            if stand[0]:
                expected = "out " + str(steps)
            else:
                expected = "told " + written(stand[1][0] if stand[1] else ()) + " " + str(steps)
            kinds[expected.split()[0]] += 1
            self.assertEqual(answered(spelling(text), written(tree), 80), expected)
        self.assertGreater(min(kinds.values()), 20)

    def test_large_trees_told(self):
        for tree in (broad(99999), chain(300), comb(300), doubled(16), (chain(99),) * 900):
            signs = written(tree)
            self.assertTrue(answered("", signs, 1) == "told " + signs + " 1")
            self.assertTrue(answered("'" + signs, "()", 2) == "told " + signs + " 2")
        # Each time a tree is put ahead of its own items: it has twice as many parts.
        tree = ()
        for unused in range(18):
            tree = (tree,) + tree
        told = answered(" ".join(["twin front"] * 18), "()", 1000000)
        self.assertTrue(told == "told " + written(tree) + " " + str(2 ** 18 - 1 + 19))

    def test_large_budgets(self):
        self.assertEqual(answered("while [ ]", "(())", 1000000), "out 1000000")
        self.assertEqual(answered("drop", "()", 1000500), "told () 2")

    def test_a_text_of_signs(self):
        self.assertIs(type(answered("", "()", 1)), str)
        self.assertIs(type(answered("", "()", 0)), str)

    def test_arguments_by_name(self):
        self.assertEqual(answered(budget=3, tree_signs="(())", signs="drop"), "told () 2")


class Refusals(unittest.TestCase):

    def refused(self, error, signs, tree_signs, budget=100):
        with self.assertRaises(SelfError) as caught:
            answered(signs, tree_signs, budget)
        self.assertIs(type(caught.exception), error)

    def test_the_text(self):
        for signs in BAD_TEXTS + NO_TEXTS:
            for budget in (0, 100):
                self.refused(NoText, signs, "(())", budget)

    def test_the_tree(self):
        for tree_signs in BAD_TREES + NO_TEXTS:
            for signs in ("", "drop", "while [ ]"):
                self.refused(NoTree, signs, tree_signs)
            self.refused(NoTree, "drop", tree_signs, 0)

    def test_both(self):
        for signs in BAD_TEXTS + NO_TEXTS:
            for tree_signs in BAD_TREES + NO_TEXTS:
                self.refused(NoText, signs, tree_signs)

    def test_behind_a_refusal(self):
        for signs, tree_signs in (("drop (", "()"), ("drop", "("), ("[", "]"), (None, None)):
            with self.assertRaises(SelfError):
                answered(signs, tree_signs, 10)
            self.assertEqual(answered("drop '(())", "()", 10), "told (()) 3")
            self.assertEqual(answered("drop '(())", "()", 2), "out 2")
