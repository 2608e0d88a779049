"""Promise [4], and [1] for what is told: selfword/brackets.py."""

import itertools
import unittest

from helper import DEEPEST, KNOWN, LARGEST, broad, chain, small_trees, tuples_all_through, written
from selfword.brackets import read_tree, show_tree
from selfword.errors import NoText, NoTree, SelfError
from selfword.trees import depth, first, parts, rest


class Shown(unittest.TestCase):

    def test_ordinary(self):
        self.assertEqual(show_tree(()), "()")
        self.assertEqual(show_tree(((),)), "(())")
        self.assertEqual(show_tree(((), ())), "(()())")
        self.assertEqual(show_tree(((), ((),))), "(()(()))")
        self.assertEqual(show_tree((((),), ())), "((())())")

    def test_known_ones(self):
        for name, (tree, unused, unasked) in KNOWN.items():
            with self.subTest(name):
                self.assertTrue(show_tree(tree) == written(tree))

    def test_by_their_making(self):
        self.assertTrue(show_tree(chain(DEEPEST)) == "(" * (DEEPEST + 1) + ")" * (DEEPEST + 1))
        self.assertTrue(show_tree(broad(LARGEST - 1)) == "(" + "()" * (LARGEST - 1) + ")")

    def test_all_small_ones(self):
        for tree in small_trees(9):
            self.assertEqual(show_tree(tree), written(tree))

    def test_a_text(self):
        for name, (tree, unused, unasked) in KNOWN.items():
            with self.subTest(name):
                self.assertIs(type(show_tree(tree)), str)

    def test_what_was_told_is_handed_on(self):
        tree = read_tree("((()())()(()))")
        self.assertEqual(show_tree(first(tree)), "(()())")
        self.assertEqual(show_tree(rest(tree)), "(()(()))")


class Read(unittest.TestCase):

    def test_ordinary(self):
        self.assertEqual(read_tree("()"), ())
        self.assertEqual(read_tree("(())"), ((),))
        self.assertEqual(read_tree("(()(()))"), ((), ((),)))
        self.assertEqual(read_tree("((())())"), (((),), ()))

    def test_known_ones(self):
        for name, (tree, unused, unasked) in KNOWN.items():
            with self.subTest(name):
                told = read_tree(written(tree))
                self.assertTrue(told == tree)
                self.assertTrue(tuples_all_through(told))

    def test_all_small_ones(self):
        for tree in small_trees(9):
            told = read_tree(written(tree))
            self.assertEqual(told, tree)
            self.assertTrue(tuples_all_through(told))

    def test_much_deeper_than_calls_go(self):
        signs = "(" * 20001 + ")" * 20001
        told = read_tree(signs)
        self.assertEqual(depth(told), 20000)
        self.assertEqual(parts(told), 20001)
        self.assertTrue(show_tree(told) == signs)

    def test_asked_again_behind_others(self):
        asked = [tree for tree, unused, unasked in KNOWN.values()] + small_trees(6)
        once = [(show_tree(tree), read_tree(written(tree))) for tree in asked]
        again = [(show_tree(tree), read_tree(written(tree))) for tree in reversed(asked)]
        again.reverse()
        for one, other in zip(once, again):
            self.assertTrue(one == other)


class Refused(unittest.TestCase):

    def refuse(self, handed):
        with self.assertRaises(NoTree) as taken:
            read_tree(handed)
        self.assertIs(type(taken.exception), NoTree)
        self.assertIsInstance(taken.exception, SelfError)
        self.assertNotIsInstance(taken.exception, NoText)

    def test_the_text_without_signs(self):
        self.refuse("")

    def test_brackets_that_do_not_close(self):
        for signs in ("(", "((", "(()", "(()()", "((())", "(" * 300000, "(" * 301 + ")" * 300):
            self.refuse(signs)

    def test_brackets_that_close_too_early(self):
        for signs in (")", "))", ")(", ")()", "())", "())(", "())(()", "(()))", ")" * 300000, "(" * 300 + ")" * 301):
            self.refuse(signs)

    def test_more_than_one_tree_in_a_row(self):
        for signs in ("()()", "(())()", "()(())", "()()()", "()" * 100000):
            self.refuse(signs)

    def test_another_sign_at_each_place(self):
        others = [" ", "\n", "\t", "\0", "\r", "\u00a0", ",", "'", "!", "[", "]", "{", "}", "<", ">", "|", "0", "a",
                  "%", "\uff08", "\uff09", "\ud800"]
        for other in others:
            for signs in ("", "()", "(())", "(()())"):
                for place in range(len(signs) + 1):
                    self.refuse(signs[:place] + other + signs[place:])

    def test_python_s_own_writing(self):
        for signs in ("((),)", "((), ())", "[]", "(  )", "( )"):
            self.refuse(signs)

    def test_a_wrong_sign_in_a_large_writing(self):
        good = "(" + "()" * 99999 + ")"
        for signs in (" " + good, good + " ", good + "\n", good[:100000] + " " + good[100000:], good[:-1], good[1:]):
            self.refuse(signs)

    def test_what_is_no_text(self):
        for handed in (0, 1, -1, True, False, None, (), ((),), ("(", ")"), ("()",), [], ["(", ")"], ["()"], {},
                       {"()": "()"}, {"(", ")"}, b"()", bytearray(b"()"), 1.5, object(), str, NoTree(), iter("()")):
            self.refuse(handed)

    def test_all_short_texts(self):
        writings = {written(tree): tree for tree in small_trees(4)}
        for length in range(9):
            for signs in itertools.product("() " if length < 8 else "()", repeat=length):
                text = "".join(signs)
                if text in writings:
                    self.assertEqual(read_tree(text), writings[text])
                else:
                    self.refuse(text)

    def test_a_good_text_is_read_as_before_behind_a_refused_one(self):
        for refused in ("", "(", "((", ")", "()()", "(()", "(() )", None, 7, ("(",)):
            self.assertEqual(read_tree("(()(()))"), ((), ((),)))
            self.refuse(refused)
            self.assertEqual(read_tree("(()(()))"), ((), ((),)))
            self.assertEqual(read_tree("()"), ())
