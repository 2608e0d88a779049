"""Promise [13] of next_of: two texts as one, and one behind the other."""

import unittest

from helper import broad, small_trees
from selfword.reading import read
from selfword.stands import event, next_of

A, B, C = ((),), ((), ()), (((),), (), ((), ()))
SHUT = (0, 0, 0, 0, 0, 0, 0, 0, 0, 0, 0, 0, 1, 0, 0)
TEXTS = [read(signs) for signs in (
    "",
    "drop",
    "!()",
    "'(()()) front twin swap",
    "turn part turn",
    "while [ drop ]",
    "while [ part swap drop ] '(())",
    "twin fork [ part swap | '(()) ] front",
    "fork [ fork [ drop | ] while [ drop ] | twin fork [ | '() ] ] swap",
    "!((()()()()()()()()())()) twin !((()()()()()()()))",
    "'() swap while [ part turn swap front swap ] drop",
    "while [ while [ part drop ] drop ] part",
    "while [ ]",
)]
STACKS = [(), ((),), (A,), (B, C), (C, (), A), ((), (), (), B)]
BEHIND = [(), ((),), (read("drop"), read("while [ ]"))]
MOST = 60


class SideBySide(unittest.TestCase):

    def go(self, p, q, behind, stack):
        """Goes both runs on until q's words are gone, or MOST stands; whether p's, and whether q's are gone."""
        one, other = ((p + q,) + behind, stack), ((p, q) + behind, stack)
        within = len(behind) + 2
        parted = True
        for unused in range(MOST):
            if parted and other[0] == ((), q) + behind:
                self.assertEqual(event(other), SHUT)
                self.assertEqual(next_of(other)[1], other[1])
                other = next_of(other)
                parted = False
            self.assertEqual(one[1], other[1])
            if parted:
                place = len(other[0]) - within
                joined = other[0][:place] + (other[0][place] + q,) + behind
                self.assertEqual(other[0][place + 1:], (q,) + behind)
                self.assertEqual(one[0], joined)
            else:
                self.assertEqual(one, other)
            if one[0] == ((),) + behind:
                return (not parted, True)
            self.assertEqual(event(one), event(other))
            one, other = next_of(one), next_of(other)
        return (not parted, False)

    def test_all_pairs(self):
        gone = {}
        for p in TEXTS:
            for q in TEXTS:
                for behind in BEHIND:
                    for stack in STACKS:
                        told = self.go(p, q, behind, stack)
                        gone[told] = gone.get(told, 0) + 1
        # Most come to the end of q's words; the whiles that go on for ever don't.
        self.assertGreater(gone[(True, True)], 2000)
        self.assertGreater(gone[(True, False)], 0)
        self.assertGreater(gone[(False, False)], 0)

    def test_small_trees_as_texts(self):
        texts = small_trees(5)
        for p in texts:
            for q in texts:
                self.assertEqual(self.go(p, q, (), (B,)), (True, True))

    def test_without_words(self):
        self.assertEqual(self.go((), (), (), ()), (True, True))
        self.assertEqual(self.go(read("drop"), (), (A,), broad(4)), (True, True))
        self.assertEqual(self.go((), read("drop"), (A,), broad(4)), (True, True))
