"""Promises [8] and [9]: selfword/stands.py, what steps take and their tallies."""

import itertools
import unittest

from helper import KNOWN, ODD_HEADS, broad, measured, small_trees, word
from selfword.reading import read
from selfword.stands import added, begin, cost, ended, event, next_of

A, B, C = ((),), ((), ()), (((),), ())
STACKS = [(), ((),), (A,), (C, A), ((), B), (B, A, C, ()), ((), (), (), A)]
BEHIND = [(), ((),), (read("twin"), read("while [ drop ]"))]
RESTS = [(), read("twin drop")]
PARTS = {(): 1, A: 2, B: 3, C: 4}


def tally(**numbers):
    """A tally with these numbers, all others 0."""
    names = ("lay", "drop", "twin", "swap", "front", "part", "turn", "yes", "no", "into", "past", "nine", "shut",
             "copied", "bodies")
    return tuple(numbers.get(name, 0) for name in names)


class Events(unittest.TestCase):

    def tells(self, one, stack, expected):
        for others, behind in itertools.product(RESTS, BEHIND):
            told = event((((one,) + others,) + behind, stack))
            self.assertEqual(told, expected)
            self.assertIs(type(told), tuple)
            self.assertEqual([type(number) for number in told], [int] * 15)

    def words(self, sort):
        heads = [broad(sort)] + [head for head in ODD_HEADS if len(head) == sort]
        return [(head,) + load for head in heads for load in ((), A, B, read("drop twin"))]

    def test_shut(self):
        for stack, behind in itertools.product(STACKS, BEHIND):
            self.assertEqual(event((((),) + behind, stack)), tally(shut=1))

    def test_words_that_are_counted_alone(self):
        for sort, name in ((0, "lay"), (1, "drop"), (3, "swap"), (4, "front"), (5, "part"), (6, "turn")):
            for stack, one in itertools.product(STACKS, self.words(sort)):
                self.tells(one, stack, tally(**{name: 1}))
        for stack in STACKS:
            self.tells((), stack, tally(lay=1))

    def test_twin(self):
        for stack, one in itertools.product(STACKS, self.words(2)):
            self.tells(one, stack, tally(twin=1, copied=PARTS[stack[0]] if stack else 1))

    def test_fork(self):
        for stack, one in itertools.product(STACKS, self.words(7)):
            self.tells(one, stack, tally(yes=1) if stack and stack[0] else tally(no=1))

    def test_while(self):
        for stack, one in itertools.product(STACKS, self.words(8)):
            into = tally(into=1, bodies=measured(one[1:])[0])
            self.tells(one, stack, into if stack and stack[0] else tally(past=1))

    def test_sort_nine(self):
        for stack, count in itertools.product(STACKS, (9, 10, 50)):
            self.tells(word(count), stack, tally(nine=1))
            self.tells(word(count, (A, B)), stack, tally(nine=1))

    def test_by_hand(self):
        def told(signs, stack):
            return event(((read(signs),), stack))

        self.assertEqual(told("'(())", (A,)), (1, 0, 0, 0, 0, 0, 0, 0, 0, 0, 0, 0, 0, 0, 0))
        self.assertEqual(told("drop", (A,)), (0, 1, 0, 0, 0, 0, 0, 0, 0, 0, 0, 0, 0, 0, 0))
        self.assertEqual(told("twin", (C,)), (0, 0, 1, 0, 0, 0, 0, 0, 0, 0, 0, 0, 0, 4, 0))
        self.assertEqual(told("twin", ()), (0, 0, 1, 0, 0, 0, 0, 0, 0, 0, 0, 0, 0, 1, 0))
        self.assertEqual(told("swap", (A,)), (0, 0, 0, 1, 0, 0, 0, 0, 0, 0, 0, 0, 0, 0, 0))
        self.assertEqual(told("front", (A,)), (0, 0, 0, 0, 1, 0, 0, 0, 0, 0, 0, 0, 0, 0, 0))
        self.assertEqual(told("part", (A,)), (0, 0, 0, 0, 0, 1, 0, 0, 0, 0, 0, 0, 0, 0, 0))
        self.assertEqual(told("turn", (A,)), (0, 0, 0, 0, 0, 0, 1, 0, 0, 0, 0, 0, 0, 0, 0))
        self.assertEqual(told("fork [ | ]", (A,)), (0, 0, 0, 0, 0, 0, 0, 1, 0, 0, 0, 0, 0, 0, 0))
        self.assertEqual(told("fork [ | ]", ((),)), (0, 0, 0, 0, 0, 0, 0, 0, 1, 0, 0, 0, 0, 0, 0))
        self.assertEqual(told("fork [ | ]", ()), (0, 0, 0, 0, 0, 0, 0, 0, 1, 0, 0, 0, 0, 0, 0))
        self.assertEqual(told("while [ drop ]", (A,)), (0, 0, 0, 0, 0, 0, 0, 0, 0, 1, 0, 0, 0, 0, 4))
        self.assertEqual(told("while [ ]", (A,)), (0, 0, 0, 0, 0, 0, 0, 0, 0, 1, 0, 0, 0, 0, 1))
        self.assertEqual(told("while [ drop ]", ((),)), (0, 0, 0, 0, 0, 0, 0, 0, 0, 0, 1, 0, 0, 0, 0))
        self.assertEqual(told("while [ drop ]", ()), (0, 0, 0, 0, 0, 0, 0, 0, 0, 0, 1, 0, 0, 0, 0))
        self.assertEqual(told("!((()()()()()()()()()))", (A,)), (0, 0, 0, 0, 0, 0, 0, 0, 0, 0, 0, 1, 0, 0, 0))
        self.assertEqual(told("", (A,)), (0, 0, 0, 0, 0, 0, 0, 0, 0, 0, 0, 0, 1, 0, 0))

    def test_known_trees(self):
        for name, (tree, count, unasked) in KNOWN.items():
            with self.subTest(name):
                self.assertEqual(event(begin(read("twin"), tree)), tally(twin=1, copied=count))
                self.assertEqual(event((((word(8, tree),),), (A,))), tally(into=1, bodies=count))
                self.assertEqual(event((((word(8, tree),),), ((),))), tally(past=1))

    def test_small_trees(self):
        for tree in small_trees(7):
            self.assertEqual(event(((read("twin"),), (tree, A))), tally(twin=1, copied=measured(tree)[0]))

    def test_arguments_by_name(self):
        self.assertEqual(event(stand=(((),), ())), tally(shut=1))
        self.assertEqual(cost(tally=tally(shut=1)), 1)
        self.assertEqual(added(other=tally(lay=1), one=tally(drop=2)), tally(lay=1, drop=2))


class Costs(unittest.TestCase):

    def test_each_number_alone(self):
        weights = [1, 1, 0, 1, 1, 1, 1, 1, 1, 1, 1, 1, 1, 1, 0]
        for place, weight in enumerate(weights):
            for number in (0, 1, 2, 7, 10 ** 30):
                self.assertEqual(cost((0,) * place + (number,) + (0,) * (14 - place)), weight * number)

    def test_all_numbers_together(self):
        self.assertEqual(cost(tuple(10 ** place for place in range(15))), 11111111111011)
        self.assertEqual(cost((0,) * 15), 0)
        self.assertEqual(cost((1,) * 15), 13)
        self.assertEqual(cost((5, 0, 9, 0, 0, 1, 0, 2, 0, 3, 0, 0, 4, 20, 100)), 35)

    def test_each_step_but_twin_takes_one(self):
        for sort in (0, 1, 3, 4, 5, 6, 7, 8, 9, 12):
            for stack, load in itertools.product(STACKS, ((), A, C)):
                self.assertEqual(cost(event((((word(sort, load),),), stack))), 1)
        for stack in STACKS:
            self.assertEqual(cost(event((((),), stack))), 1)
            self.assertEqual(cost(event(((((),),), stack))), 1)

    def test_twin_takes_as_many_as_the_top_has_parts(self):
        self.assertEqual(cost(event(((read("twin"),), ()))), 1)
        for name, (tree, count, unasked) in KNOWN.items():
            with self.subTest(name):
                self.assertEqual(cost(event(((read("twin"),), (tree, A)))), count)
                self.assertEqual(cost(event(((read("drop"),), (tree, A)))), 1)

    def test_a_number(self):
        self.assertIs(type(cost((0,) * 15)), int)
        self.assertIs(type(cost(tally(twin=1, copied=3))), int)


class Sums(unittest.TestCase):

    def test_number_by_number(self):
        one = tuple(range(15))
        other = tuple(10 ** place for place in range(15))
        self.assertEqual(added(one, other), tuple(place + 10 ** place for place in range(15)))
        self.assertEqual(added(other, one), added(one, other))
        self.assertEqual(added(one, (0,) * 15), one)
        self.assertEqual(added((0,) * 15, (0,) * 15), (0,) * 15)

    def test_the_kind(self):
        told = added((1,) * 15, (2,) * 15)
        self.assertIs(type(told), tuple)
        self.assertEqual([type(number) for number in told], [int] * 15)

    def test_steps_of_a_sum(self):
        one, other = tuple(range(15)), tuple(range(40, 55))
        self.assertEqual(cost(added(one, other)), cost(one) + cost(other))

    def test_a_whole_run(self):
        # Three times: a while into its body of 18 parts, part, a twin of a leaf, two drops, a shut.
        stand = begin(read("while [ part twin drop drop ] '(()) twin"), broad(3))
        so_far = (0,) * 15
        while not ended(stand):
            so_far = added(so_far, event(stand))
            stand = next_of(stand)
        self.assertEqual(so_far, tally(lay=1, drop=6, twin=4, part=3, into=3, past=1, shut=4, copied=5, bodies=54))
        self.assertEqual(cost(so_far), 23)
