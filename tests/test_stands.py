"""Promise [7]: selfword/stands.py, stands and the next one of each."""

import itertools
import unittest

from helper import KNOWN, ODD_HEADS, broad, chain, small_trees, tuples_all_through
from selfword.reading import read
from selfword.stands import begin, ended, next_of

A, B, C, F, G = ((),), ((), ()), (((),), ()), ((), (), ()), (((),),)
# Stacks of no tree up to five, whose trees are told apart; and with leaves among them.
STACKS = [(), (A,), (A, B), (A, B, C), (A, B, C, F), (A, B, C, F, G), ((),), ((), A), (A, ()), ((), (), ()),
          (B, (), A, ())]
# What stands in K behind the text that is gone through.
BEHIND = [(), ((),), (read("turn"),), (read("drop drop"), (), read("twin"))]
# The words behind the one that is gone.
RESTS = [(), ((),), read("swap part"), read("while [ drop ]")]


def with_leaves(stack, count):
    stack = list(stack)
    while len(stack) < count:
        stack.append(())
    return stack


class Ends(unittest.TestCase):

    def test_begin(self):
        for text in small_trees(5):
            for tree in small_trees(4):
                self.assertEqual(begin(text, tree), ((text,), (tree,)))
        self.assertEqual(begin((), ()), (((),), ((),)))

    def test_begin_with_known_trees(self):
        for name, (tree, unused, unasked) in KNOWN.items():
            with self.subTest(name):
                self.assertTrue(begin(tree, ()) == ((tree,), ((),)))
                self.assertTrue(begin(A, tree) == ((A,), (tree,)))

    def test_ended(self):
        for stack in STACKS:
            self.assertIs(ended(((), stack)), True)
            for text in small_trees(3):
                self.assertIs(ended(((text,), stack)), False)
                self.assertIs(ended(((text, ()), stack)), False)
        self.assertIs(ended(begin((), ())), False)

    def test_arguments_by_name(self):
        self.assertEqual(begin(tree=A, text=B), ((B,), (A,)))
        self.assertIs(ended(stand=((), ())), True)
        self.assertEqual(next_of(stand=(((),), (A,))), ((), (A,)))


class Steps(unittest.TestCase):

    def goes(self, one, stack, texts_of, stack_behind):
        """The word goes from this stack to that one, whatever stands behind it."""
        for others, behind in itertools.product(RESTS, BEHIND):
            text = (one,) + others
            told = next_of(((text,) + behind, stack))
            self.assertEqual(told, (texts_of(text, others) + behind, tuple(stack_behind)))
            self.assertIs(type(told), tuple)
            self.assertTrue(tuples_all_through(told))

    def goes_on(self, one, stack, stack_behind):
        self.goes(one, stack, lambda text, others: (others,), stack_behind)

    def loads(self, sort):
        """Words of this sort: without a load, with loads, and with a first that has other items than leaves."""
        heads = [broad(sort)] + [head for head in ODD_HEADS if len(head) == sort]
        return [(head,) + load for head in heads for load in ((), A, B, C, read("drop '()"))]

    def test_shut(self):
        for stack, behind in itertools.product(STACKS, BEHIND):
            self.assertEqual(next_of((((),) + behind, stack)), (behind, stack))

    def test_lay(self):
        for stack in STACKS:
            for one in self.loads(0):
                self.goes_on(one, stack, (one[1:],) + stack)
            self.goes_on((), stack, ((),) + stack)
            self.goes_on(((),), stack, ((),) + stack)
            self.goes_on(((), A, B), stack, ((A, B),) + stack)

    def test_drop(self):
        for stack, one in itertools.product(STACKS, self.loads(1)):
            self.goes_on(one, stack, with_leaves(stack, 1)[1:])

    def test_twin(self):
        for stack, one in itertools.product(STACKS, self.loads(2)):
            a, *e = with_leaves(stack, 1)
            self.goes_on(one, stack, [a, a] + e)

    def test_swap(self):
        for stack, one in itertools.product(STACKS, self.loads(3)):
            a, b, *e = with_leaves(stack, 2)
            self.goes_on(one, stack, [b, a] + e)

    def test_front(self):
        for stack, one in itertools.product(STACKS, self.loads(4)):
            a, b, *e = with_leaves(stack, 2)
            self.goes_on(one, stack, [(a,) + b] + e)

    def test_part(self):
        for stack, one in itertools.product(STACKS, self.loads(5)):
            a, *e = with_leaves(stack, 1)
            self.goes_on(one, stack, [a[0] if a else (), a[1:]] + e)

    def test_turn(self):
        for stack, one in itertools.product(STACKS, self.loads(6)):
            a, b, c, *e = with_leaves(stack, 3)
            self.goes_on(one, stack, [c, a, b] + e)

    def test_fork(self):
        for stack, one in itertools.product(STACKS, self.loads(7)):
            yes, no = (one[1] if one[1:] else ()), one[2:]
            into = no if with_leaves(stack, 1)[0] == () else yes
            self.goes(one, stack, lambda text, others: (into, others), with_leaves(stack, 1))

    def test_while(self):
        for stack, one in itertools.product(STACKS, self.loads(8)):
            if with_leaves(stack, 1)[0] == ():
                self.goes_on(one, stack, with_leaves(stack, 1))
            else:
                self.goes(one, stack, lambda text, others: (one[1:], text), stack)

    def test_sort_nine(self):
        heads = [broad(9), broad(10), broad(200)] + [head for head in ODD_HEADS if len(head) > 8]
        for stack, head, load in itertools.product(STACKS, heads, ((), A, C)):
            self.goes_on((head,) + load, stack, stack)


class ByHand(unittest.TestCase):
    """Steps with all that they come to written out."""

    def step(self, signs, stack, texts, stack_behind):
        self.assertEqual(next_of(((read(signs),), stack)), (tuple(read(text) for text in texts), stack_behind))

    def test_each_word(self):
        self.step("'(()) drop", (B, C), ["drop"], (A, B, C))
        self.step("drop twin", (A, B, C), ["twin"], (B, C))
        self.step("twin", (A, B), [""], (A, A, B))
        self.step("swap", (A, B, C), [""], (B, A, C))
        self.step("front", (A, B, C), [""], ((((),), (), ()), C))
        self.step("part", (C, F), [""], (((),), ((),), F))
        self.step("turn", (A, B, C, F), [""], (C, A, B, F))
        self.step("fork [ drop | twin ] swap", (A, B), ["drop", "swap"], (A, B))
        self.step("fork [ drop | twin ] swap", ((), B), ["twin", "swap"], ((), B))
        self.step("while [ drop ] swap", (A, B), ["drop", "while [ drop ] swap"], (A, B))
        self.step("while [ drop ] swap", ((), B), ["swap"], ((), B))
        self.step("!((()()()()()()()()())()) swap", (A, B), ["swap"], (A, B))
        self.step("", (A, B), [], (A, B))

    def test_each_word_at_an_empty_stack(self):
        self.step("'(())", (), [""], (A,))
        self.step("drop", (), [""], ())
        self.step("twin", (), [""], ((), ()))
        self.step("swap", (), [""], ((), ()))
        self.step("front", (), [""], (((),),))
        self.step("part", (), [""], ((), ()))
        self.step("turn", (), [""], ((), (), ()))
        self.step("fork [ drop | twin ]", (), ["twin", ""], ((),))
        self.step("while [ drop ]", (), [""], ((),))
        self.step("!((()()()()()()()()()))", (), [""], ())
        self.step("", (), [], ())

    def test_too_few_trees(self):
        self.step("swap", (A,), [""], ((), A))
        self.step("front", (A,), [""], ((A,),))
        self.step("turn", (A,), [""], ((), A, ()))
        self.step("turn", (A, B), [""], ((), A, B))

    def test_empty_yes_no_and_body(self):
        self.step("fork [ | drop ]", (A,), ["", ""], (A,))
        self.step("fork [ drop | ]", ((),), ["", ""], ((),))
        self.step("while [ ]", (A,), ["", "while [ ]"], (A,))
        self.step("!((()()()()()()()))", (A,), ["", ""], (A,))
        self.step("!((()()()()()()()))", ((),), ["", ""], ((),))

    def test_sorts_hang_on_how_many_items_alone(self):
        for head, stack in (((A,), (B,)), ((A, (), B), (B, A)), ((B, B, B, B), ((A,) + B,)), ((C,) * 9, (A, B))):
            text = ((head,),)
            self.assertEqual(next_of(((text,), (A, B))), (((),), stack))

    def test_a_whole_run(self):
        text = read("while [ drop ]")
        stands = [
            ((text,), (A,)),
            ((read("drop"), text), (A,)),
            (((), text), ()),
            ((text,), ()),
            (((),), ((),)),
            ((), ((),)),
        ]
        self.passes(begin(text, A), stands)

    def test_a_whole_run_with_forks(self):
        text = read("part fork [ twin | drop '(()) ] front")
        fork_on = read("fork [ twin | drop '(()) ] front")
        front = read("front")
        self.passes(begin(text, ((), A)), [
            ((text,), (((), A),)),
            ((fork_on,), ((), (A,))),
            ((read("drop '(())"), front), ((), (A,))),
            ((read("'(())"), front), ((A,),)),
            (((), front), (A, (A,))),
            ((front,), (A, (A,))),
            (((),), ((A, A),)),
            ((), ((A, A),)),
        ])
        self.passes(begin(text, (A,)), [
            ((text,), ((A,),)),
            ((fork_on,), (A, ())),
            ((read("twin"), front), (A, ())),
            (((), front), (A, A, ())),
            ((front,), (A, A, ())),
            (((),), ((A, ()), ())),
            ((), ((A, ()), ())),
        ])

    def passes(self, stand, stands):
        for expected in stands:
            self.assertEqual(stand, expected)
            self.assertIs(ended(stand), expected[0] == ())
            if not ended(stand):
                stand = next_of(stand)

    def test_leaves_turned_around(self):
        # The text takes item by item off a row and puts it ahead of another one.
        text = read("'() swap while [ part turn swap front swap ] drop")
        for tree in ((), (A,), (A, B), (A, B, C), (A, B, C, A, F)):
            stand = begin(text, tree)
            while not ended(stand):
                stand = next_of(stand)
            self.assertEqual(stand, ((), (tuple(reversed(tree)),)))

    def test_a_stand_that_comes_again(self):
        stand = begin(read("while [ ]"), A)
        again = next_of(next_of(stand))
        self.assertEqual(again, stand)
        self.assertNotEqual(next_of(stand), stand)


class Large(unittest.TestCase):

    def test_large_stacks_and_texts(self):
        stack, text, texts = broad(50000), read("drop") * 20000, (read("twin"),) * 10000
        told = next_of(((text,) + texts, stack))
        self.assertTrue(told == ((text[1:],) + texts, stack[1:]))

    def test_known_trees(self):
        for name, (tree, unused, unasked) in KNOWN.items():
            with self.subTest(name):
                for signs, stack in (("twin", (tree, tree)), ("part", (tree[0] if tree else (), tree[1:])),
                                     ("front", ((tree,),)), ("drop", ()), ("'()", ((), tree)), ("swap", ((), tree))):
                    self.assertTrue(next_of(begin(read(signs), tree)) == (((),), stack))
                self.assertTrue(next_of((((((),) + tree,),), (A,))) == (((),), (tree, A)))
                self.assertTrue(next_of(((((broad(8),) + tree,),), (A,))) == ((tree, ((broad(8),) + tree,)), (A,)))

    def test_trees_that_come_to_be_deeper(self):
        stand = ((read("front") * 250,), broad(2) + (A,) * 250)
        while not ended(stand):
            stand = next_of(stand)
        self.assertEqual(len(stand[1]), 2)
        self.assertTrue(stand[1][0] == chained(249))

    def test_a_deep_top(self):
        for deep in (1, 299, 300, 350):
            told = next_of(begin(read("part"), chain(deep)))
            self.assertTrue(told == (((),), (chain(deep - 1), ())))


def chained(times):
    """What fronts make of a leaf and of the trees beneath it."""
    tree = ((),)
    for unused in range(times):
        tree = (tree, ())
    return tree
