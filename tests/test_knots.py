"""Promise [18]: selfword/knots.py, the knot of a text."""

import unittest

from helper import (ODD_HEADS, TELLS_IT, TELLS_IT_AHEAD, TELLS_IT_TWICE, broad, chain, comb, drawn_runs, measured,
                    small_trees, tuples_all_through, word)
from selfword.counts import turned
from selfword.knots import knot, knot_tally
from selfword.putting import put
from selfword.reading import read
from selfword.runner import gone, run, tally_of
from selfword.selfrun import selfrunner
from selfword.stands import begin, cost

A, B, C = ((),), ((), ()), (((),), ())
U = selfrunner()
TREES = [(), A, B, C, (C, A, (), B), comb(4), broad(6)]
TEXTS = [read(signs) for signs in (
    "", "drop '(())", "twin front", "swap", "drop drop", "part swap drop", "turn", "fork [ '(()) | '(()()) ]",
    "'() swap while [ part turn swap front swap ] drop", "!() !((()()()()()()()()())()) front")]
# Texts that make nothing that hangs on the knot: they look beneath it, take it apart or tell any trees.
NO_USE = [read(signs) for signs in (
    "drop", "swap", "turn", "swap swap drop", "front drop", "drop '(()()())", "drop '(((()()())()))",
    "drop while [ ]", "while [ drop ]", "part drop drop", "drop twin twin", "drop !() !((()()()()()()()()()))")]


def always(text):
    """The text that makes this one of whatever it is run on."""
    return (word(1), word(0, text))


class WhatTheKnotDoes(unittest.TestCase):

    def does(self, text, tree, most=300):
        """The knot does what the made text does, by the tally that is told; whether both runs came to an end."""
        q = knot(text)
        made = run(text, q, 30000)
        if made[0] == "out":
            return False
        own = run(made[1], tree, most)
        if own[0] == "out":
            return False
        one, other = tally_of(text, q, 30000), tally_of(made[1], tree, most)
        tally = knot_tally(text, one, other)
        steps = cost(tally)
        self.assertLessEqual(steps, cost(turned(one)) + cost(turned(other)) + 10000 + 10 * measured(text)[0])
        self.assertTrue(run(q, tree, steps) == ("told", own[1], steps))
        self.assertEqual(run(q, tree, steps - 1)[:2], ("out", ()))
        self.assertEqual(tally_of(q, tree, steps), tally)
        return True

    def tells(self, text, tree, expected):
        self.assertTrue(self.does(text, tree))
        self.assertTrue(run(knot(text), tree, 1000000)[1] == expected)

    def test_tells_itself(self):
        text = read(TELLS_IT)
        for tree in TREES + [knot(text), text]:
            self.tells(text, tree, knot(text))

    def test_puts_itself_ahead_of_its_input(self):
        text = read(TELLS_IT_AHEAD)
        for tree in TREES + [knot(text), text, broad(3000), chain(200)]:
            self.tells(text, tree, (knot(text),) + tree)

    def test_copies_itself(self):
        text = read(TELLS_IT_TWICE)
        for tree in TREES:
            self.tells(text, tree, (knot(text),) + knot(text))

    def test_puts_itself_into_a_text(self):
        for inner in TEXTS:
            # Makes (lay(q), front) and then the words of the inner text: q put into it.
            text = read("'() front") + (word(0, (word(4),) + inner), word(3), word(4))
            q = knot(text)
            for tree in TREES[:4]:
                self.assertEqual(run(text, q, 100)[1], put(inner, q))
                own = run(inner, (q,) + tree, 20000)
                if own[0] == "told":
                    self.assertTrue(self.does(text, tree, 20000))
                    self.assertTrue(run(q, tree, 1000000)[1] == own[1])

    def test_makes_always_the_same(self):
        for made in TEXTS + [read("while [ part drop ]")]:
            for tree in TREES:
                self.tells(always(made), tree, run(made, tree, 200)[1])

    def test_makes_nothing_of_use(self):
        for text in NO_USE:
            for tree in TREES:
                self.assertTrue(self.does(text, tree))
        # Neither the maker nor what it makes finds anything beneath its input.
        self.tells(read("swap"), C, C)
        self.tells(always(read("swap")), C, ())
        self.tells(always(read("drop")), C, ())

    def test_takes_itself_apart(self):
        for signs in ("part drop part drop drop", "part swap drop part drop '() swap drop", "part part drop",
                      "part swap drop '() front '() swap front", "fork [ drop '() | ]", "fork [ drop | drop '(()) ]"):
            for tree in TREES:
                self.assertTrue(self.does(read(signs), tree))

    def test_loads_and_firsts_of_any_kind(self):
        for head in [broad(count) for count in range(10)] + ODD_HEADS:
            for load in ((), A, (read("drop"), word(5))):
                self.assertTrue(self.does(read("drop") + ((head,) + load,) + read("drop"), C))
                self.does(always(((head,) + load,)), C)

    def test_drawn_makers(self):
        ending = [self.does(text, tree) for text, tree in drawn_runs(80, 150)]
        self.assertGreater(ending.count(True), 60)

    def test_drawn_made_texts(self):
        ending = [self.does(always(text), tree, 120) for text, tree in drawn_runs(81, 150)]
        self.assertGreater(ending.count(True), 100)

    def test_any_trees(self):
        for text in small_trees(5):
            self.does(text, C)
            self.assertTrue(self.does(always(text), C))

    def test_large(self):
        text = (word(0, broad(90000)), word(1)) + read(TELLS_IT)
        self.tells(text, C, knot(text))
        text = (word(0, chain(190)), word(1)) + read(TELLS_IT_AHEAD)
        self.tells(text, broad(90000), (knot(text),) + broad(90000))

    def test_the_selfrunner_runs_it(self):
        text = read(TELLS_IT_AHEAD)
        q = knot(text)
        tally = turned(tally_of(q, C, 10000))
        self.assertEqual(tally_of(U, (q,) + C, 1000000), tally)
        self.assertTrue(run(U, (q,) + C, cost(tally))[1] == (q,) + C)


class ForEver(unittest.TestCase):

    def goes_on(self, text, tree):
        q = knot(text)
        for budget in (0, 100, 3000, 100000):
            told = run(q, tree, budget)
            self.assertEqual(told[:2], ("out", ()))
            self.assertLessEqual(told[2], budget)
        self.assertNotEqual(gone(begin(q, tree), 100000)[0][0], ())

    def test_the_maker(self):
        for signs in ("while [ ]", "while [ '(()) ]", "drop '(()) while [ '() drop ]", "part while [ ]"):
            for tree in ((), A, C):
                self.goes_on(read(signs), tree)

    def test_what_is_made(self):
        for signs in ("'(()) while [ ]", "drop '(()) while [ '() front ]", "'(()()) fork [ while [ '(()) ] | ]"):
            for tree in ((), A, C):
                self.goes_on(always(read(signs)), tree)

    def test_what_is_made_on_some_trees(self):
        text = always(read("while [ ]"))
        self.goes_on(text, A)
        self.goes_on(text, C)
        self.assertEqual(run(knot(text), (), 10000)[:2], ("told", ()))

    def test_what_is_made_is_the_knot_itself(self):
        for signs in ("", "!((()()()()()()()()()))", "twin", "twin drop", "'(()) drop"):
            self.goes_on(read(signs), C)


class TheKnot(unittest.TestCase):

    def bounds(self, text):
        q = knot(text)
        own, of_knot = measured(text), measured(q)
        self.assertLessEqual(of_knot[0], 40000 + 10 * own[0])
        self.assertLessEqual(of_knot[1], own[1] + 100)
        self.assertTrue(tuples_all_through(q))
        self.assertTrue(knot(text) == q)

    def test_parts_and_depth(self):
        for text in TEXTS + NO_USE + TREES + [U, knot(U), knot(read(TELLS_IT))] + small_trees(4):
            self.bounds(text)
        for text in (broad(99999), chain(190), comb(190), (word(0, chain(180)),) * 500):
            self.bounds(text)

    def test_different_texts_different_knots(self):
        made = [knot(text) for text in small_trees(5)]
        self.assertEqual(len(set(made)), len(made))

    def test_a_tally_of_fifteen_numbers(self):
        for one, other in (((0,) * 15, (0,) * 15), ((0,) * 15, (5,) * 15), ((10 ** 30,) * 15, tuple(range(15)))):
            told = knot_tally(C, one, other)
            self.assertIs(type(told), tuple)
            self.assertEqual([type(number) for number in told], [int] * 15)
            self.assertGreaterEqual(min(told), 0)
            self.assertEqual(told, knot_tally(C, other, one))

    def test_the_tally_hangs_on_the_text_too(self):
        none = (0,) * 15
        one, other = knot_tally((), none, none), knot_tally((word(0, broad(700)),), none, none)
        self.assertLess(cost(one) + 700, cost(other))

    def test_arguments_by_name(self):
        self.assertEqual(knot(text=C), knot(C))
        one, other = (1,) * 15, (2,) * 15
        self.assertEqual(knot_tally(other=other, text=C, one=one), knot_tally(C, one, other))
