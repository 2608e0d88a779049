"""Promise [16]: selfword/counts.py, what the selfrunner takes, told from what the text's own run took."""

import random
import unittest

from helper import ODD_HEADS, broad, chain, comb, drawn_runs, small_trees, walked, word
from selfword.counts import turned
from selfword.putting import putter
from selfword.reading import read
from selfword.runner import run, tally_of
from selfword.selfrun import selfrunner, shown
from selfword.stands import begin, cost, ended, event, next_of

A, B, C = ((),), ((), ()), (((),), ())
U = selfrunner()
NONE = (0,) * 15
ONES = [tuple(int(at == place) for at in range(15)) for place in range(15)]
TREES = [(), A, B, C, (C, A, (), B), comb(4), broad(6)]
TEXTS = [read(signs) for signs in (
    "",
    "'() '(()()) '((())())",
    "drop drop drop '(()) drop",
    "twin twin front twin",
    "drop twin twin",
    "swap swap swap",
    "drop swap",
    "front front",
    "drop front",
    "part part part",
    "drop part turn",
    "turn turn drop turn",
    "fork [ '(()) | '(()()) ] fork [ | drop ] drop fork [ | ]",
    "drop fork [ drop | drop drop ] fork [ twin | ]",
    "while [ part drop ] while [ ] drop while [ drop ]",
    "while [ part while [ part drop ] drop ] '(())",
    "part while [ part fork [ while [ part drop ] | swap fork [ drop '() | ] ] drop ] front",
    "'() swap while [ part turn swap front swap ] drop",
    "!() !((())()) !((()()()()()()()()())) !((()()()()()()()()()()()())())",
    "!((())()()) !((()())(())) !((()()()())()) !((()()()()()())((()))) !((()()()()()()()))",
)]


def tallies(seed, count, most):
    """So many drawn tallies of numbers up to this one, always the same for a seed."""
    draw = random.Random(seed)
    return [tuple(draw.randint(0, most) for unused in range(15)) for unasked in range(count)]


def plus(one, other):
    return tuple(mine + yours for mine, yours in zip(one, other))


def less(one, other):
    return tuple(mine - yours for mine, yours in zip(one, other))


class Sums(unittest.TestCase):

    def test_kinds(self):
        for tally in [NONE] + ONES + tallies(60, 50, 9) + tallies(61, 50, 10 ** 40):
            told = turned(tally)
            self.assertIs(type(told), tuple)
            self.assertEqual([type(number) for number in told], [int] * 15)
            self.assertGreaterEqual(min(told), 0)
            self.assertEqual(turned(tally), told)

    def test_each_number_is_taken_from_nought_on(self):
        for one in ONES:
            self.assertGreaterEqual(min(less(turned(one), turned(NONE))), 0)

    def test_two_added_up(self):
        for most in (1, 30, 10 ** 6, 10 ** 50):
            drawn = tallies(62, 60, most) + ONES + [NONE]
            for one, other in zip(drawn, reversed(drawn)):
                self.assertEqual(plus(turned(plus(one, other)), turned(NONE)), plus(turned(one), turned(other)))

    def test_one_taken_many_times(self):
        for tally in ONES + tallies(63, 20, 1000):
            each = less(turned(tally), turned(NONE))
            for times in (0, 1, 2, 7, 1000, 10 ** 30):
                many = tuple(times * number for number in tally)
                self.assertEqual(turned(many), plus(turned(NONE), tuple(times * number for number in each)))

    def test_the_sum_of_its_numbers(self):
        for tally in tallies(64, 60, 10 ** 12):
            summed = turned(NONE)
            for one, times in zip(ONES, tally):
                summed = plus(summed, tuple(times * number for number in less(turned(one), turned(NONE))))
            self.assertEqual(turned(tally), summed)

    def test_arguments_by_name(self):
        self.assertEqual(turned(tally=ONES[3]), turned(ONES[3]))


class BetweenHeads(unittest.TestCase):

    def between(self, text, tree):
        """The tallies that the selfrunner goes up to each head, and the one behind the last."""
        stand, gone = begin(U, (text,) + tree), [NONE]
        while not ended(stand):
            if shown(stand) is not None:
                gone.append(NONE)
            gone[-1] = plus(gone[-1], event(stand))
            stand = next_of(stand)
        return gone

    def test_each_step_by_itself(self):
        met = set()
        for text in TEXTS:
            for tree in TREES:
                passed = walked(begin(text, tree), 300)
                gone = self.between(text, tree)
                self.assertEqual(plus(gone[0], gone[-1]), turned(NONE))
                self.assertEqual(len(gone), len(passed) + 1)
                for ahead, behind, taken in zip(passed, passed[1:], gone[1:]):
                    step = less(behind[1], ahead[1])
                    met.update(place for place in range(15) if step[place])
                    self.assertEqual(plus(taken, turned(NONE)), turned(step))
        self.assertEqual(sorted(met), list(range(15)))


class WholeRuns(unittest.TestCase):

    def counts(self, text, tree, most=120):
        """The selfrunner's tally is the text's own, turned; whether the text came to an end."""
        stand, tally, steps = walked(begin(text, tree), most)[-1]
        if stand[0]:
            return False
        self.turns(text, tree, tally)
        return True

    def turns(self, text, tree, tally):
        told, z = turned(tally), (text,) + tree
        steps = cost(told)
        self.assertEqual(tally_of(U, z, 1000000), told)
        self.assertEqual(run(U, z, steps)[::2], ("told", steps))
        self.assertEqual(run(U, z, steps - 1)[:2], ("out", ()))
        self.assertLess(run(U, z, steps - 1)[2], steps)

    def test_texts(self):
        for text in TEXTS:
            for tree in TREES:
                self.assertTrue(self.counts(text, tree))

    def test_drawn_texts(self):
        ending = [self.counts(text, tree) for text, tree in drawn_runs(65, 1500)]
        self.assertGreater(ending.count(True), 1000)

    def test_any_trees_as_texts(self):
        for text in small_trees(6):
            self.assertTrue(self.counts(text, B))
            self.assertTrue(self.counts(text, ()))
        for text in (comb(20), chain(50), broad(40), (broad(9),) * 9, (C, comb(3), chain(4))):
            self.assertTrue(self.counts(text, C))

    def test_words_with_loads_and_firsts_of_any_kind(self):
        for head in [broad(count) for count in range(13)] + ODD_HEADS:
            for load in ((), A, (A, ()), (read("drop"), word(5)), ((), word(0, C)), read("part drop drop")):
                one = (head,) + load
                for tree in ((), (A, B, C)):
                    self.counts((one,), tree)
                    self.counts((word(5), one, word(0, A), one, one), tree)

    def test_large(self):
        self.assertTrue(self.counts(read("twin drop"), broad(30000), 40000))
        self.assertTrue(self.counts((word(8, (word(1), word(0, broad(20000)), word(1))),), A))
        self.assertTrue(self.counts((word(5, broad(9000)), word(9, comb(90)), word(0, chain(200))), chain(200)))
        self.assertTrue(self.counts(read("'() swap while [ part turn swap front swap ] drop"), (A, B, C) * 60, 5000))

    def test_texts_of_the_program(self):
        for text, tree in ((putter(), (A, B)), (U, (TEXTS[12], A, C)), (U, (U, read("drop"))), (U, (TEXTS[17], B))):
            self.turns(text, tree, tally_of(text, tree, 1000000))

    def test_the_leaf(self):
        # From the leaf the empty text is run on the leaf.
        self.assertEqual(tally_of(U, (), 1000), turned(tally_of((), (), 10)))
        self.assertEqual(tally_of(U, (), 1000), turned(ONES[12]))
