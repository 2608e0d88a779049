"""Promise [5]: selfword/words.py."""

import unittest

from helper import HEADS, KNOWN, ODD_HEADS, broad, chain, small_trees, tuples_all_through, word
from selfword.words import fork, lay, load_of, loop, plain, plains, sort_of

LOADS = small_trees(5) + [broad(1000), chain(298)]


class Asked(unittest.TestCase):

    def test_sorts_from_0_to_9(self):
        for sort in range(10):
            for load in LOADS:
                self.assertEqual(sort_of(word(sort, load)), sort)
                self.assertTrue(load_of(word(sort, load)) == load)

    def test_the_word_that_is_the_leaf(self):
        self.assertEqual(sort_of(()), 0)
        self.assertEqual(load_of(()), ())

    def test_nine_items_and_more(self):
        for count in (9, 10, 11, 12, 17, 18, 100, 99998):
            for load in ((), ((),), (((),), ())):
                self.assertEqual(sort_of((broad(count),) + load), 9)
                self.assertEqual(load_of((broad(count),) + load), load)

    def test_items_that_are_no_leaves_count_as_one_each(self):
        for head in ODD_HEADS:
            for load in ((), ((),), (broad(3), ())):
                self.assertEqual(sort_of((head,) + load), min(len(head), 9))
                self.assertEqual(load_of((head,) + load), load)
        self.assertEqual(sort_of((((((),) * 20),),)), 1)
        self.assertEqual(sort_of(((chain(200), chain(100), ()),)), 3)

    def test_known_trees_as_words(self):
        for name, (tree, unused, unasked) in KNOWN.items():
            with self.subTest(name):
                self.assertEqual(sort_of(tree), min(len(tree[0]), 9) if tree else 0)
                self.assertTrue(load_of(tree) == tree[1:])

    def test_kinds(self):
        for head in HEADS + ODD_HEADS:
            self.assertIs(type(sort_of((head,))), int)
            self.assertIs(type(load_of((head,))), tuple)


class Made(unittest.TestCase):

    def test_lay(self):
        self.assertEqual(lay(()), ((),))
        self.assertEqual(lay(((),)), ((), ()))
        self.assertEqual(lay((((),), ())), ((), ((),), ()))
        for tree in LOADS:
            self.assertTrue(lay(tree) == ((),) + tree)
            self.assertEqual(sort_of(lay(tree)), 0)
            self.assertTrue(load_of(lay(tree)) == tree)

    def test_plain(self):
        self.assertEqual(plain(1), (((),),))
        self.assertEqual(plain(2), (((), ()),))
        for sort in range(1, 7):
            self.assertEqual(plain(sort), (((),) * sort,))
            self.assertEqual(sort_of(plain(sort)), sort)
            self.assertEqual(load_of(plain(sort)), ())

    def test_plains(self):
        self.assertEqual(plains(""), ())
        self.assertEqual(plains("turn"), (plain(6),))
        self.assertEqual(plains("drop twin swap front part turn drop"),
                         (plain(1), plain(2), plain(3), plain(4), plain(5), plain(6), plain(1)))

    def test_fork(self):
        seven = ((), (), (), (), (), (), ())
        self.assertEqual(fork((), ()), (seven, ()))
        self.assertEqual(fork(((),), ()), (seven, ((),)))
        self.assertEqual(fork((), ((),)), (seven, (), ()))
        self.assertEqual(fork((plain(1), plain(2)), (plain(3), plain(4))),
                         (seven, (plain(1), plain(2)), plain(3), plain(4)))
        for yes in LOADS:
            for no in LOADS:
                made = fork(yes, no)
                self.assertTrue(made == (seven, yes) + no)
                self.assertEqual(sort_of(made), 7)
                self.assertTrue(load_of(made) == (yes,) + no)

    def test_loop(self):
        eight = ((), (), (), (), (), (), (), ())
        self.assertEqual(loop(()), (eight,))
        self.assertEqual(loop((plain(1), lay(()))), (eight, plain(1), lay(())))
        for body in LOADS:
            self.assertTrue(loop(body) == (eight,) + body)
            self.assertEqual(sort_of(loop(body)), 8)
            self.assertTrue(load_of(loop(body)) == body)

    def test_tuples_all_through(self):
        for made in [lay(()), fork((), ()), loop(())] + [plain(sort) for sort in range(1, 7)]:
            self.assertTrue(tuples_all_through(made))
        for load in LOADS:
            for made in (lay(load), fork(load, load), loop(load)):
                self.assertTrue(tuples_all_through(made))

    def test_arguments_by_name(self):
        self.assertEqual(sort_of(word=plain(3)), 3)
        self.assertEqual(load_of(word=lay(((),))), ((),))
        self.assertEqual(lay(tree=()), ((),))
        self.assertEqual(plain(sort=1), (((),),))
        self.assertEqual(fork(no=(), yes=((),)), (broad(7), ((),)))
        self.assertEqual(loop(body=()), (broad(8),))
