"""Promise [3], and [1] for what is told: selfword/trees.py."""

import unittest

from helper import KNOWN, chain, measured, small_trees, tuples_all_through
from selfword.trees import depth, first, parts, rest


class FirstAndRest(unittest.TestCase):

    def test_of_the_leaf(self):
        for told in (first(()), rest(())):
            self.assertEqual(told, ())
            self.assertIs(type(told), tuple)

    def test_ordinary(self):
        a, b, c = ((),), ((), ()), (((),),)
        self.assertEqual(first((a, b, c)), a)
        self.assertEqual(rest((a, b, c)), (b, c))
        self.assertEqual(first((c, a)), c)
        self.assertEqual(rest((c, a)), (a,))

    def test_of_one_item(self):
        self.assertEqual(first((((), ()),)), ((), ()))
        self.assertEqual(rest((((), ()),)), ())

    def test_whose_first_is_the_leaf(self):
        self.assertEqual(first(((), ((),))), ())
        self.assertEqual(rest(((), ((),))), (((),),))

    def test_small_ones_put_together_again(self):
        for tree in small_trees(8):
            if tree != ():
                self.assertEqual((first(tree),) + rest(tree), tree)

    def test_known_ones(self):
        for name, (tree, unused, unasked) in KNOWN.items():
            with self.subTest(name):
                self.assertTrue(first(tree) == (tree[0] if tree else ()))
                self.assertTrue(rest(tree) == tuple(tree[k] for k in range(1, len(tree))))

    def test_tuples_all_through(self):
        for name, (tree, unused, unasked) in KNOWN.items():
            with self.subTest(name):
                self.assertTrue(tuples_all_through(first(tree)))
                self.assertTrue(tuples_all_through(rest(tree)))


class PartsAndDepth(unittest.TestCase):

    def test_of_the_leaf(self):
        self.assertEqual(parts(()), 1)
        self.assertEqual(depth(()), 0)

    def test_known_ones(self):
        for name, (tree, count, deep) in KNOWN.items():
            with self.subTest(name):
                self.assertEqual(parts(tree), count)
                self.assertEqual(depth(tree), deep)

    def test_all_small_ones(self):
        for tree in small_trees(9):
            self.assertEqual((parts(tree), depth(tree)), measured(tree))

    def test_much_deeper_than_calls_go(self):
        tree = chain(20000)
        self.assertEqual(parts(tree), 20001)
        self.assertEqual(depth(tree), 20000)

    def test_whole_numbers(self):
        for name, (tree, unused, unasked) in KNOWN.items():
            with self.subTest(name):
                self.assertIs(type(parts(tree)), int)
                self.assertIs(type(depth(tree)), int)


class AskedAgain(unittest.TestCase):

    def test_the_same_behind_other_trees(self):
        def told(tree):
            return (first(tree), rest(tree), parts(tree), depth(tree))

        asked = [tree for tree, unused, unasked in KNOWN.values()] + small_trees(6)
        once = [told(tree) for tree in asked]
        again = [told(tree) for tree in reversed(asked)]
        again.reverse()
        for one, other in zip(once, again):
            self.assertTrue(one == other)
