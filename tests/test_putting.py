"""Promises [11] and [12]: selfword/putting.py, putting trees into texts."""

import unittest

from helper import KNOWN, broad, chain, comb, drawn_runs, measured, small_trees, tuples_all_through, walked
from selfword.putting import put, putter
from selfword.reading import read
from selfword.runner import gone, run, tally_of
from selfword.stands import added, begin, ended, next_of

A, B, C = ((),), ((), ()), (((),), ())
FRONT = (((), (), (), ()),)
TREES = [(), A, B, C, (C, A, ()), comb(4), broad(9)]
TEXTS = [read(signs) for signs in (
    "", "drop", "part", "part swap", "twin part turn", "while [ part drop ] '(())", "while [ ]", "front front",
    "fork [ part | '() ] twin", "!() !((()()()()()()()()())()) swap")]


class Put(unittest.TestCase):

    def test_word_by_word(self):
        for text in TEXTS + TREES:
            for tree in TREES + TEXTS:
                told = put(text, tree)
                self.assertEqual(told, (((),) + tree, FRONT) + text)
                self.assertTrue(tuples_all_through(told))

    def test_by_hand(self):
        self.assertEqual(put((), ()), (((),), (((), (), (), ()),)))
        self.assertEqual(put(read("drop"), B), read("'(()()) front drop"))
        self.assertEqual(put(read("twin drop"), ()), read("'() front twin drop"))

    def test_put_twice(self):
        self.assertEqual(put(put(read("drop"), A), B), read("'(()()) front '(()) front drop"))
        for text in TEXTS:
            for tree in TREES:
                twice = put(put(text, tree), C)
                self.assertEqual(twice, (((),) + C, FRONT, ((),) + tree, FRONT) + text)
                # First C comes ahead of the input's items, then the tree ahead of it.
                self.assertEqual(gone(begin(twice, B), 4)[0], begin(text, (tree, C) + B))

    def test_known_trees(self):
        for name, (tree, unused, unasked) in KNOWN.items():
            with self.subTest(name):
                self.assertTrue(put(tree, tree) == (((),) + tree, FRONT) + tree)

    def test_arguments_by_name(self):
        self.assertEqual(put(tree=A, text=read("drop")), read("'(()) front drop"))


class PutAndRun(unittest.TestCase):

    def test_two_steps_on(self):
        for text in TEXTS:
            for tree in TREES:
                for x in TREES:
                    start = begin(put(text, tree), x)
                    after_lay = next_of(start)
                    self.assertEqual(after_lay, (((FRONT,) + text,), (tree, x)))
                    self.assertEqual(next_of(after_lay), begin(text, (tree,) + x))
                    self.assertEqual(gone(start, 2), (begin(text, (tree,) + x), (1, 0, 0, 0, 1) + (0,) * 10))

    def test_the_same_stands_from_then_on(self):
        for text in TEXTS:
            for tree in (A, C):
                for x in (A, (B, (), A)):
                    own = begin(text, (tree,) + x)
                    of_put = next_of(next_of(begin(put(text, tree), x)))
                    for unused in range(50):
                        self.assertEqual(of_put, own)
                        if ended(own):
                            break
                        own, of_put = next_of(own), next_of(of_put)

    def test_drawn_texts(self):
        for text, tree in drawn_runs(30, 300):
            x = (C, tree)
            expected, tally, steps = walked(((text,), ((tree,) + x,)), 100)[-1]
            stand, told = gone(begin(put(text, tree), x), 102)
            self.assertEqual(stand, expected)
            self.assertEqual(told, added(tally, (1, 0, 0, 0, 1) + (0,) * 10))


class ThePutter(unittest.TestCase):

    def puts(self, tree, text, inner):
        told = run(putter(), tree, 100)
        self.assertEqual(told[0], "told")
        self.assertTrue(told[1] == (((),) + inner, FRONT) + text)
        self.assertTrue(told[1] == put(text, inner))
        self.assertLessEqual(told[2], 100)

    def test_a_text(self):
        text = putter()
        self.assertTrue(tuples_all_through(text))
        self.assertLessEqual(measured(text)[1], 60)
        self.assertEqual(putter(), text)

    def test_no_item_and_one(self):
        self.puts((), (), ())
        for text in TEXTS + TREES:
            self.puts((text,), text, ())

    def test_two_items_and_more(self):
        for text in TEXTS + TREES:
            for tree in TREES + TEXTS:
                self.puts((text, tree), text, tree)
                self.puts((text, tree, C), text, tree)
                self.puts((text, tree, (), A, comb(9)), text, tree)

    def test_all_small_rows(self):
        for tree in small_trees(7):
            self.puts(tree, tree[0] if tree else (), tree[1] if tree[1:] else ())

    def test_known_trees(self):
        for name, (tree, unused, unasked) in KNOWN.items():
            with self.subTest(name):
                self.puts((tree, A), tree, A)
                self.puts((A, tree), A, tree)
                self.puts((tree, tree, tree), tree, tree)
                self.puts(tree, tree[0] if tree else (), tree[1] if tree[1:] else ())

    def test_long_rows(self):
        self.puts((A, C) + broad(50000), A, C)
        self.puts((chain(290), chain(280), chain(299)), chain(290), chain(280))

    def test_the_putter_put_into_and_put(self):
        text = putter()
        self.puts((text, A), text, A)
        self.puts((A, text), A, text)
        self.puts((text, text), text, text)
        self.puts((text, text, text), text, text)

    def test_the_putter_with_a_text_put_in(self):
        # The putter, with a text put into it, puts the first item of its input into that text.
        for text in TEXTS:
            told = run(put(putter(), text), (C, A), 100)[1]
            self.assertEqual(told, put(text, C))

    def test_what_it_makes_runs(self):
        for text in TEXTS:
            for tree in TREES:
                made = run(putter(), (text, tree), 100)[1]
                for x in ((), A, C):
                    self.assertEqual(run(made, x, 92)[:2], run(text, (tree,) + x, 90)[:2])

    def test_nothing_is_left_beneath(self):
        behind = (read("drop"), read("part"))
        for tree, text, inner in (((), (), ()), ((A,), A, ()), ((A, B), A, B), ((A, B, C), A, B)):
            steps = run(putter(), tree, 100)[2]
            stand, tally = gone(((putter(),) + behind, (tree, C, A)), steps)
            self.assertEqual(stand, (behind, (put(text, inner), C, A)))
            self.assertEqual(tally, tally_of(putter(), tree, 100))

    def test_its_steps_hang_on_nothing(self):
        # Nothing is copied, so a large row takes no longer than a small one.
        tallies = {tally_of(putter(), tree, 100) for tree in ((), A, (C, B), (broad(9999), comb(200), A), (putter(),))}
        self.assertEqual(len(tallies), 1)
