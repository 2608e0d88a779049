"""Promise [6], how texts are written: selfword/writing.py."""

import unittest

from helper import DEEPEST, HEADS, KNOWN, ODD_HEADS, broad, chain, small_trees, spelling, word, written
from selfword.words import fork, lay, loop, plain
from selfword.writing import show

DROP, TWIN, TURN = plain(1), plain(2), plain(6)
NAMES = ["drop", "twin", "swap", "front", "part", "turn"]


class Forms(unittest.TestCase):

    def test_the_text_without_words(self):
        self.assertEqual(show(()), "")

    def test_lays(self):
        self.assertEqual(show((lay(()),)), "'()")
        self.assertEqual(show((lay(((),)),)), "'(())")
        self.assertEqual(show((lay(((), ((),))), lay(()))), "'(()(())) '()")
        for name, (tree, unused, unasked) in KNOWN.items():
            with self.subTest(name):
                self.assertTrue(show((lay(tree),)) == "'" + written(tree))

    def test_plain_words(self):
        for sort in range(1, 7):
            self.assertEqual(show((plain(sort),)), NAMES[sort - 1])
        self.assertEqual(show(tuple(plain(sort) for sort in range(1, 7))), "drop twin swap front part turn")

    def test_forks(self):
        self.assertEqual(show((fork((), ()),)), "fork [ | ]")
        self.assertEqual(show((fork((DROP,), ()),)), "fork [ drop | ]")
        self.assertEqual(show((fork((), (DROP,)),)), "fork [ | drop ]")
        self.assertEqual(show((fork((DROP, TWIN), (TURN, lay(()))),)), "fork [ drop twin | turn '() ]")
        self.assertEqual(show((TWIN, fork((), ()), DROP)), "twin fork [ | ] drop")

    def test_whiles(self):
        self.assertEqual(show((loop(()),)), "while [ ]")
        self.assertEqual(show((loop((DROP,)),)), "while [ drop ]")
        self.assertEqual(show((loop((DROP, lay(()))), TWIN)), "while [ drop '() ] twin")

    def test_one_within_the_other(self):
        self.assertEqual(show((fork((fork((), (DROP,)),), (loop(()), fork((TWIN,), ()))),)),
                         "fork [ fork [ | drop ] | while [ ] fork [ twin | ] ]")
        self.assertEqual(show((loop((loop((loop(()),)), fork((), ()))),)), "while [ while [ while [ ] ] fork [ | ] ]")

    def test_the_word_that_is_the_leaf(self):
        self.assertEqual(show(((),)), "!()")
        self.assertEqual(show(((), (), DROP, ())), "!() !() drop !()")
        self.assertEqual(show((loop(((),)), fork(((),), ((), ())))), "while [ !() ] fork [ !() | !() !() ]")

    def test_firsts_with_an_item_that_is_no_leaf(self):
        self.assertEqual(show((((((),),),),)), "!(((())))")
        for head in ODD_HEADS:
            for load in small_trees(4):
                self.assertEqual(show(((head,) + load,)), "!" + written((head,) + load))

    def test_nine_and_more_items(self):
        for count in (9, 10, 11, 100, 5000):
            for load in small_trees(3):
                self.assertEqual(show((word(count, load),)), "!" + written(word(count, load)))

    def test_plain_words_with_a_load(self):
        self.assertEqual(show((word(1, ((),)),)), "!((())())")
        for sort in range(1, 7):
            for load in small_trees(5)[1:]:
                self.assertEqual(show((word(sort, load),)), "!" + written(word(sort, load)))

    def test_a_fork_whose_load_is_the_leaf(self):
        self.assertEqual(show((word(7),)), "!((()()()()()()()))")
        self.assertEqual(show((loop((word(7), fork((), ()))),)), "while [ !((()()()()()()())) fork [ | ] ]")


class AllTogether(unittest.TestCase):

    def test_all_small_trees(self):
        for tree in small_trees(10):
            self.assertEqual(show(tree), spelling(tree))

    def test_each_first_with_small_loads(self):
        for head in HEADS + ODD_HEADS:
            for load in small_trees(6):
                self.assertEqual(show(((head,) + load,)), spelling(((head,) + load,)))

    def test_known_trees(self):
        for name, (tree, unused, unasked) in KNOWN.items():
            with self.subTest(name):
                self.assertTrue(show(tree) == spelling(tree))
                self.assertTrue(show((loop(tree), fork(tree, tree))) == spelling((loop(tree), fork(tree, tree))))

    def test_no_two_trees_alike(self):
        texts = small_trees(9) + [((head,) + load,) for head in HEADS[3:] + ODD_HEADS for load in small_trees(5)]
        self.assertEqual(len({show(text) for text in texts}), len(set(texts)))

    def test_a_text_of_signs(self):
        for text in ((), (DROP,), (lay(()),), ((),)):
            self.assertIs(type(show(text)), str)

    def test_the_argument_by_name(self):
        self.assertEqual(show(text=(DROP,)), "drop")


class Deep(unittest.TestCase):

    def test_whiles(self):
        text = (DROP,)
        for unused in range(DEEPEST):
            text = (loop(text),)
        self.assertTrue(show(text) == "while [ " * DEEPEST + "drop" + " ]" * DEEPEST)

    def test_forks_by_their_yes(self):
        text = ()
        for unused in range(DEEPEST):
            text = (fork(text, ()),)
        self.assertTrue(show(text) == "fork [ " * DEEPEST + "|" + " ] |" * (DEEPEST - 1) + " ]")

    def test_forks_by_their_no(self):
        text = (DROP,)
        for unused in range(DEEPEST):
            text = (fork((), text),)
        self.assertTrue(show(text) == "fork [ | " * DEEPEST + "drop" + " ]" * DEEPEST)

    def test_both_in_turn_with_words_beside(self):
        text = ()
        ahead, behind = "", ""
        for unused in range(DEEPEST // 2):
            text = (TWIN, fork((DROP, loop(text)), (TURN,)), lay(()))
            ahead, behind = "twin fork [ drop while [ " + ahead, behind + "] | turn ] '() "
        self.assertTrue(show(text) == (ahead + behind)[:-1])

    def test_much_deeper_than_calls_go(self):
        text = (lay(chain(5000)),)
        for unused in range(5000):
            text = (loop(text),)
        expected = "while [ " * 5000 + "'" + "(" * 5001 + ")" * 5001 + " ]" * 5000
        self.assertTrue(show(text) == expected)

    def test_a_long_text(self):
        self.assertTrue(show((DROP,) * 30000) == " ".join(["drop"] * 30000))
        self.assertTrue(show(broad(99999)) == " ".join(["!()"] * 99999))
