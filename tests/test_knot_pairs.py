"""Promise [20]: selfword/knots.py, the knots of two texts."""

import unittest

from helper import broad, chain, comb, drawn_runs, measured, small_trees, tuples_all_through, word
from selfword.counts import turned
from selfword.knots import knots
from selfword.reading import read
from selfword.runner import run, tally_of
from selfword.stands import cost

A, B, C = ((),), ((), ()), (((),), ())
TREES = [(), A, B, C, (C, A, (), B), comb(4)]
# Of the pair (q, r) they make a text that tells q, r, the pair, r ahead of its input's items; that is r itself.
FIRST = read("part swap drop '() front '() swap front")
SECOND = read("part drop part swap drop '() front '() swap front")
BOTH = read("'() front '() swap front")
SECOND_AHEAD = read("part drop part swap drop '() front '(((()()()()))) swap front")
TAKES_FIRST = read("part")
TAKES_SECOND = read("part drop part")
ALWAYS = (word(1), word(0, read("part swap '() front")))
NO_USE = [read(signs) for signs in ("drop", "swap", "turn", "drop '(()()())", "drop twin twin", "drop while [ ]")]


class WhatTheKnotsDo(unittest.TestCase):

    def does(self, one, other, tree, most=300):
        """Each knot does what its made text does; whether all runs came to an end."""
        pair = knots(one, other)
        return [self.one_does(maker, pair, q, tree, most, 10 * (measured(one)[0] + measured(other)[0]))
                for maker, q in zip((one, other), pair)] == [True, True]

    def one_does(self, maker, pair, q, tree, most, beside):
        made = run(maker, pair, 30000)
        if made[0] == "out":
            return False
        own = run(made[1], tree, most)
        if own[0] == "out":
            return False
        both = cost(turned(tally_of(maker, pair, 30000))) + cost(turned(tally_of(made[1], tree, most)))
        self.assertTrue(run(q, tree, both + 20000 + beside)[:2] == ("told", own[1]))
        return True

    def tells(self, one, other, tree, expected):
        """The two knots tell these; so they do what they do by their runs, too."""
        self.assertTrue(self.does(one, other, tree, 20000))
        for q, told in zip(knots(one, other), expected):
            self.assertTrue(run(q, tree, 1000000)[1] == told)

    def test_the_first_the_second_or_both(self):
        takers = (FIRST, SECOND, BOTH, SECOND_AHEAD, ALWAYS)
        for one in takers:
            for other in takers:
                q, r = knots(one, other)
                for tree in (TREES if other == FIRST else TREES[3:4]):
                    told = (q, r, (q, r), (r,) + tree, run(ALWAYS[1][1:], tree, 100)[1])
                    self.tells(one, other, tree, (told[takers.index(one)], told[takers.index(other)]))

    def test_one_does_what_the_other_does(self):
        for tree in TREES:
            self.tells(TAKES_SECOND, ALWAYS, tree, [run(ALWAYS[1][1:], tree, 100)[1]] * 2)
            self.tells(ALWAYS, TAKES_FIRST, tree, [run(ALWAYS[1][1:], tree, 100)[1]] * 2)
        r = knots(TAKES_SECOND, SECOND)[1]
        self.tells(TAKES_SECOND, SECOND, C, (r, r))

    def test_nothing_of_use(self):
        for one in NO_USE:
            for other in NO_USE[:3] + [BOTH]:
                self.assertTrue(self.does(one, other, C))
                self.assertTrue(self.does(other, one, ()))
        # Neither the maker nor what it makes finds anything beneath its input.
        self.tells(read("swap"), (word(1), word(0, read("swap"))), C, (C, ()))

    def test_for_ever(self):
        for signs in ("while [ ]", "drop '(()) while [ '(()) ]", "part"):
            q, r = knots(read(signs), BOTH)
            self.assertEqual(run(q, C, 300000)[:2], ("out", ()))
            self.assertTrue(run(r, C, 30000)[:2] == ("told", (q, r)))
            q, r = knots(BOTH, (word(1), word(0, read("'(()) while [ ]"))))
            self.assertTrue(run(q, C, 30000)[:2] == ("told", (q, r)))
            self.assertEqual(run(r, C, 300000)[:2], ("out", ()))
        # Each is to do what the other does.
        for q in knots(TAKES_SECOND, TAKES_FIRST):
            self.assertEqual(run(q, C, 300000)[:2], ("out", ()))

    def test_drawn_makers(self):
        texts = [text for text, unused in drawn_runs(83, 120)]
        ending = [self.does(one, other, C) for one, other in zip(texts, reversed(texts))]
        self.assertGreater(ending.count(True), 10)

    def test_any_trees(self):
        for one, other in zip(small_trees(5), reversed(small_trees(5))):
            self.does(one, other, A)

    def test_large(self):
        large = (word(0, broad(60000)), word(1))
        q, r = knots(large + FIRST, BOTH)
        self.tells(large + FIRST, BOTH, C, (q, (q, r)))
        q, r = knots(SECOND, (word(0, chain(190)), word(1)) + FIRST)
        self.tells(SECOND, (word(0, chain(190)), word(1)) + FIRST, broad(5000), (r, q))


class TheKnots(unittest.TestCase):

    def bounds(self, one, other):
        pair = knots(one, other)
        self.assertIs(type(pair), tuple)
        self.assertEqual(len(pair), 2)
        self.assertTrue(tuples_all_through(pair))
        self.assertTrue(knots(one, other) == pair)
        sizes = measured(one), measured(other)
        for q in pair:
            count, deep = measured(q)
            self.assertLessEqual(count, 40000 + 10 * (sizes[0][0] + sizes[1][0]))
            self.assertLessEqual(deep, 100 + max(sizes[0][1], sizes[1][1]))

    def test_parts_and_depth(self):
        for one in (FIRST, SECOND, ALWAYS, (), C, broad(50000), chain(190), comb(190)):
            for other in (BOTH, (), chain(100), broad(40000)):
                self.bounds(one, other)

    def test_arguments_by_name(self):
        self.assertEqual(knots(other=BOTH, one=FIRST), knots(FIRST, BOTH))
