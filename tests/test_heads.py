"""Promises [14] and [15]: selfword/selfrun.py, the stands that the selfrunner's heads show, and what lies beneath."""

import unittest

from helper import ODD_HEADS, broad, chain, comb, drawn_runs, small_trees, tuples_all_through, walked, word
from selfword.reading import read
from selfword.runner import gone, run, tally_of
from selfword.selfrun import selfrunner, shown
from selfword.stands import added, begin, cost, ended, event, next_of

A, B, C = ((),), ((), ()), (((),), ())
U = selfrunner()
EACH = 300
TEXTS = [read(signs) for signs in (
    "",
    "drop drop '(())",
    "twin twin front twin swap",
    "turn part turn front",
    "fork [ '(()) | '(()()) ] fork [ | drop ]",
    "while [ part drop ] twin",
    "'() swap while [ part turn swap front swap ] drop",
    "drop while [ drop ] swap",
    "!() !((()()()()()()()()())) !((()()()()()()())) while [ ]",
    "while [ ]",
    "while [ '(()) drop ]",
    "while [ twin front ]",
)]
TREES = [(), A, C, (C, A, (), B)]
# Texts and trees beneath; the selfrunner and what it is made of among them.
BENEATH = [((), ()), (((),), ((),)), ((read("while [ ]"), read("drop twin")), (B, C)), ((U, U), (U, A, ())),
           ((U[7:], U[1:]), ((U[7:],), (A,), (U, C))), ((), broad(50)), (tuple(TEXTS), tuple(TEXTS))]


class Heads(unittest.TestCase):

    def shows(self, text, tree, most=60, texts=(), stack=()):
        """From the begin on the heads show the stands of the text's run, just these, and no more is taken than told."""
        passed = walked(((text,), (tree,)), most)
        stand = ((U,) + texts, ((text,) + tree,) + stack)
        heads, taken = 0, 0
        while heads < len(passed):
            self.assertNotEqual(stand[0], texts)
            head = shown(stand)
            if head is not None:
                self.assertEqual(head, passed[heads][0])
                self.assertEqual(head, stand[1][:2])
                self.assertIs(type(head), tuple)
                self.assertTrue(tuples_all_through(head))
                self.assertLessEqual(taken, EACH + self.beyond(passed, heads))
                heads, taken = heads + 1, 0
            if heads < len(passed):
                taken += cost(event(stand))
                stand = next_of(stand)
        if not passed[-1][0][0]:
            self.ends(stand, passed[-1][0][1], texts, stack)

    def beyond(self, passed, heads):
        """The parts of what a twin copied, or of a body, in the step of the text between the last two heads."""
        if heads == 0:
            return 0
        one, other = passed[heads - 1][1], passed[heads][1]
        return other[13] - one[13] + other[14] - one[14]

    def ends(self, stand, stack_told, texts, stack):
        """Behind the last head comes no other one, and soon the end."""
        taken = 0
        while stand[0] != texts:
            taken += cost(event(stand))
            stand = next_of(stand)
            if stand[0] != texts:
                self.assertIsNone(shown(stand))
        self.assertLessEqual(taken, EACH)
        self.assertEqual(stand, (texts, (stack_told[0] if stack_told else (),) + stack))

    def test_texts(self):
        for text in TEXTS:
            for tree in TREES:
                self.shows(text, tree)

    def test_drawn_texts(self):
        for text, tree in drawn_runs(50, 600):
            self.shows(text, tree)

    def test_any_trees_as_texts(self):
        for text in small_trees(6):
            self.shows(text, B)
        for text in (comb(20), chain(50), broad(40), (broad(9),) * 9):
            self.shows(text, C)

    def test_words_with_loads_and_firsts_of_any_kind(self):
        for head in [broad(count) for count in range(12)] + ODD_HEADS:
            for load in ((), (A, ()), (read("drop"), word(5)), read("part drop drop")):
                one = (head,) + load
                self.shows((one,), ())
                self.shows((word(5), one, word(0, A), one, one), (A, B, C), 20)

    def test_large_twins_bodies_and_loads(self):
        self.shows(read("twin drop"), broad(20000), 30000)
        self.shows(read("twin twin drop twin"), comb(90), 2000)
        self.shows((word(8, (word(1), word(0, broad(20000)), word(1))), word(2)), A)
        self.shows((word(5, broad(5000)), word(9, broad(5000)), word(1, broad(5000)), word(0, broad(5000))), C)
        self.shows((word(7, (broad(5000),) + broad(4999)),), C, 10)
        self.shows((word(7, (broad(5000),) + broad(4999)),), (), 10)
        self.shows(((broad(5000),), word(8, broad(3000)), (broad(7) + (comb(90),),)), C, 10)

    def test_for_ever(self):
        self.shows(read("while [ ]"), A, 700)
        self.shows(read("while [ '() swap front ]"), A, 700)
        self.shows(read("'(()) while [ twin fork [ drop | ] ]"), A, 700)

    def test_the_leaf(self):
        # From the leaf the empty text is run on the leaf.
        stand, heads = begin(U, ()), []
        while not ended(stand):
            if shown(stand) is not None:
                heads.append(shown(stand))
            stand = next_of(stand)
        self.assertEqual(heads, [(((),), ((),)), ((), ((),))])
        self.assertEqual(stand, ((), ((),)))

    def test_the_selfrunner_run_on_itself(self):
        self.shows(U, (read("part fork [ drop | twin ]"), A, B), 400)
        self.shows(U, (U, read("drop")), 800)

    def test_heads_of_heads(self):
        text, tree = read("part fork [ drop | '(()) ] while [ drop ]"), (A, B)
        stand, heads = begin(U, (U, text) + tree), []
        while not ended(stand):
            inner = shown(stand)
            if inner is not None and shown(inner) is not None:
                heads.append(shown(inner))
            stand = next_of(stand)
        self.assertEqual(heads, [one for one, tally, steps in walked(((text,), (tree,)), 100)])

    def test_no_heads(self):
        for stand in (begin(U, ()), begin(U, (A, B)), ((), ()), ((), (A, B)), (((),), ()), ((U[1:],), (A, B)),
                      ((read("while [ ]"),), (A, B)), ((U[7:] + U,), (A, B)), ((U, U[7:]), (A, B))):
            self.assertIsNone(shown(stand))

    def test_arguments_by_name(self):
        self.assertIsNone(shown(stand=begin(U, ())))


class Beneath(Heads):
    """All that is told of heads, with other texts and trees beneath, too."""

    def shows(self, text, tree, most=60, texts=(), stack=()):
        # One of them each time, so that all are met: the plain runs are told above.
        self.turn = getattr(self, "turn", 0) + 1
        texts, stack = BENEATH[self.turn % len(BENEATH)]
        Heads.shows(self, text, tree, most, texts, stack)

    def test_the_same_tally_and_nothing_beneath_touched(self):
        for text in TEXTS[:9]:
            for tree in TREES:
                z = (text,) + tree
                end, tally = gone(begin(U, z), 100000)
                self.assertEqual(end, ((), run(text, tree, 1000)[1:2]))
                self.assertEqual(tally, tally_of(U, z, 100000))
                for texts, stack in BENEATH:
                    start = ((U,) + texts, (z,) + stack)
                    self.assertEqual(gone(start, cost(tally)), ((texts, end[1] + stack), tally))

    def test_drawn_texts_told_beneath(self):
        told = 0
        for text, tree in drawn_runs(51, 400):
            own = run(text, tree, 100)
            if own[0] == "told":
                told += 1
                z = (text,) + tree
                tally = tally_of(U, z, 100000)
                texts, stack = BENEATH[told % len(BENEATH)]
                reached = gone(((U,) + texts, (z,) + stack), cost(tally))
                self.assertEqual(reached, ((texts, (own[1],) + stack), tally))
        self.assertGreater(told, 200)

    def test_stand_by_stand(self):
        for texts, stack in BENEATH:
            for text in TEXTS[:9]:
                plain = begin(U, (text, A, C))
                other = ((U,) + texts, plain[1] + stack)
                while not ended(plain):
                    self.assertEqual(other, (plain[0] + texts, plain[1] + stack))
                    self.assertEqual(shown(other), shown(plain))
                    self.assertEqual(event(other), event(plain))
                    plain, other = next_of(plain), next_of(other)
                self.assertEqual(other, (texts, plain[1] + stack))

    def test_one_behind_the_other(self):
        # What the first selfrunner tells is what the second one gets.
        first, second = read("'(()()()) front"), read("part drop")
        z = (first, second, A)
        stand = ((U, U), (z, C))
        one = tally_of(U, z, 10000)
        self.assertEqual(run(first, (second, A), 100)[1], (broad(3), second, A))
        other = tally_of(U, (broad(3), second, A), 10000)
        end, tally = gone(stand, 100000)
        self.assertEqual(tally, added(one, other))
        self.assertEqual(end, ((), (run(broad(3), (second, A), 100)[1], C)))
