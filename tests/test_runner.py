"""Promise [10]: selfword/runner.py, runs as far as a budget goes."""

import unittest

from helper import KNOWN, broad, chain, comb, doubled, drawn_runs, measured, tuples_all_through, walked, word
from selfword.reading import read
from selfword.runner import gone, run, tally_of
from selfword.stands import added, begin, cost, ended, event, next_of

A, B, C = ((),), ((), ()), (((),), ())
NOTHING = (0,) * 15
LARGEST_BUDGET = 1000000
TURNED_ABOUT = read("'() swap while [ part turn swap front swap ] drop")
RUNS = [(read(signs), tree) for signs, tree in (
    ("", ()),
    ("", A),
    ("drop", A),
    ("drop drop drop", B),
    ("twin", C),
    ("twin twin front twin", comb(3)),
    ("twin drop twin drop twin", broad(7)),
    ("'(()) front twin front", B),
    ("while [ part drop ] twin", broad(6)),
    ("'() swap while [ part turn swap front swap ] drop", (A, B, C, ())),
    ("while [ part fork [ twin front | drop ] swap ] '(()())", (A, (), C)),
    ("!((()()()()()()()()())) turn part !()", C),
    ("while [ ]", A),
    ("while [ twin front ]", A),
    ("while [ twin fork [ drop | '() ] ] twin", B),
    ("while [ '(()) ]", C),
)]
STACKS = [(), ((),), (A,), (C, B), ((), A, B, C)]
BEHIND = [(), ((),), (read("drop twin"), read("while [ drop ] twin")), (read("front"), (), read("while [ ]"))]


class ByHand(unittest.TestCase):

    def tells(self, signs, tree, budget, expected):
        told = run(read(signs), tree, budget)
        self.assertEqual(told, expected)
        self.assertEqual([type(one) for one in told], [str, tuple, int])

    def test_told_and_out(self):
        self.tells("", C, 1, ("told", C, 1))
        self.tells("", C, 0, ("out", (), 0))
        self.tells("'(()()) drop '(())", C, 10, ("told", A, 4))
        self.tells("part swap", (A, B), 3, ("told", (B,), 3))
        self.tells("part swap", (A, B), 2, ("out", (), 2))
        self.tells("swap", A, 5, ("told", (), 2))
        self.tells("turn", A, 5, ("told", (), 2))
        self.tells("front", A, 5, ("told", (A,), 2))
        self.tells("fork [ drop '(()) | '(()()) ]", B, 9, ("told", A, 5))
        self.tells("fork [ drop '(()) | '(()()) ]", (), 9, ("told", B, 4))
        self.tells("while [ drop '() ] twin", A, 6, ("out", (), 6))
        self.tells("while [ drop '() ] twin", A, 7, ("told", (), 7))

    def test_at_an_end_whose_stack_is_empty(self):
        self.tells("drop", C, 2, ("told", (), 2))
        self.tells("drop drop", C, 3, ("told", (), 3))
        self.tells("drop !((()()()()()()()()()))", C, 3, ("told", (), 3))
        self.assertEqual(gone(begin(read("drop"), C), 2)[0], ((), ()))
        self.assertEqual(gone((((),), ()), 1)[0], ((), ()))

    def test_a_twin_that_does_not_fit(self):
        self.tells("twin", broad(9), 11, ("told", broad(9), 11))
        self.tells("twin", broad(9), 10, ("out", (), 10))
        self.tells("twin", broad(9), 9, ("out", (), 0))
        self.tells("'() drop twin", broad(9), 11, ("out", (), 2))
        self.tells("'() drop twin", broad(9), 12, ("out", (), 12))
        self.tells("twin twin drop", broad(9), 19, ("out", (), 10))
        self.tells("drop twin", C, 1, ("out", (), 1))
        self.tells("drop twin", C, 2, ("out", (), 2))
        self.tells("drop twin", C, 3, ("told", (), 3))

    def test_where_such_a_run_is_out(self):
        text = read("'() drop twin drop")
        for budget in range(2, 12):
            self.assertEqual(gone(begin(text, broad(9)), budget), (((text[2:],), (broad(9),)), (1, 1) + (0,) * 13))
        self.assertEqual(tally_of(text, broad(9), 11), (1, 1) + (0,) * 13)
        self.assertEqual(tally_of(text, broad(9), 12), (1, 1, 1) + (0,) * 10 + (10, 0))

    def test_for_ever(self):
        for budget in (0, 1, 2, 3, 1000, 1001, LARGEST_BUDGET):
            self.tells("while [ ]", A, budget, ("out", (), budget))
            into, shut = (budget + 1) // 2, budget // 2
            self.assertEqual(tally_of(read("while [ ]"), A, budget), (0,) * 9 + (into, 0, 0, shut, 0, into))
        self.tells("while [ '(()) drop ]", C, 4321, ("out", (), 4321))
        self.tells("while [ '() front ]", C, 4321, ("out", (), 4321))
        # Each time the tree has twice as many parts: 18 times, and once more into the body, where it no longer fits.
        self.tells("while [ twin front ]", A, LARGEST_BUDGET, ("out", (), 2 * (2 ** 18 - 1) + 18 * 3 + 1))

    def test_arguments_by_name(self):
        self.assertEqual(run(budget=3, tree=A, text=read("drop")), ("told", (), 2))
        self.assertEqual(tally_of(budget=3, tree=A, text=read("drop")), (0, 1) + (0,) * 10 + (1, 0, 0))
        self.assertEqual(gone(budget=1, stand=(((),), (A,))), (((), (A,)), (0,) * 12 + (1, 0, 0)))


class Budgets(unittest.TestCase):
    """Each budget from 0 on, against the test's own walk."""

    def check(self, stand, budget, expected):
        end, tally, steps = expected
        told = gone(stand, budget)
        self.assertEqual(told, (end, tally))
        self.assertIs(type(told), tuple)
        self.assertTrue(tuples_all_through(told[0]))
        self.assertIs(type(told[1]), tuple)
        self.assertEqual([type(number) for number in told[1]], [int] * 15)
        self.assertEqual(cost(told[1]), steps)
        self.assertLessEqual(steps, budget)

    def check_run(self, text, tree, budget, expected):
        end, tally, steps = expected
        self.assertEqual(tally_of(text, tree, budget), tally)
        if end[0]:
            self.assertEqual(run(text, tree, budget), ("out", (), steps))
        else:
            self.assertEqual(run(text, tree, budget), ("told", end[1][0] if end[1] else (), steps))

    def test_runs(self):
        for text, tree in RUNS:
            for budget in range(60):
                expected = walked(((text,), (tree,)), budget)[-1]
                self.check(begin(text, tree), budget, expected)
                self.check_run(text, tree, budget, expected)

    def test_just_within_and_one_step_less(self):
        ending = 0
        for text, tree in RUNS + drawn_runs(10, 300):
            end, tally, steps = walked(((text,), (tree,)), 500)[-1]
            if not end[0]:
                ending += 1
                self.assertEqual(run(text, tree, steps)[0::2], ("told", steps))
                self.assertEqual(run(text, tree, steps + 1)[0::2], ("told", steps))
                self.assertEqual(run(text, tree, LARGEST_BUDGET), run(text, tree, steps))
                # The last step is a shut, so just that one is left.
                self.assertEqual(run(text, tree, steps - 1), ("out", (), steps - 1))
        self.assertGreater(ending, 200)

    def test_with_other_texts_and_trees_beneath(self):
        for text, tree in RUNS:
            for texts in BEHIND:
                for stack in STACKS:
                    stand = ((text,) + texts, (tree,) + stack)
                    for budget in (0, 1, 2, 5, 13, 40):
                        self.check(stand, budget, walked(stand, budget)[-1])

    def test_any_stands(self):
        for texts in BEHIND:
            for stack in STACKS:
                for budget in range(12):
                    self.check((texts, stack), budget, walked((texts, stack), budget)[-1])

    def test_from_an_end_nothing_is_gone(self):
        for stack in STACKS + [(comb(300),), broad(1000)]:
            for budget in (0, 1, 1000, LARGEST_BUDGET):
                self.assertEqual(gone(((), stack), budget), (((), stack), NOTHING))

    def test_with_budget_nought_nothing_is_gone(self):
        for text, tree in RUNS:
            self.assertEqual(gone(begin(text, tree), 0), (begin(text, tree), NOTHING))
            self.assertEqual(run(text, tree, 0), ("out", (), 0))
            self.assertEqual(tally_of(text, tree, 0), NOTHING)


class GoneOn(unittest.TestCase):

    def goes_on(self, stand, parted, whole):
        """What is gone with one budget and then with what's left of the whole is what's gone with that at once."""
        between, one = gone(stand, parted)
        end, other = gone(between, whole - cost(one))
        self.assertEqual((end, added(one, other)), gone(stand, whole))

    def test_gone_on_and_gone_at_once(self):
        for text, tree in RUNS + drawn_runs(11, 60):
            for whole in (7, 23, 50):
                for parted in range(whole + 1):
                    self.goes_on(begin(text, tree), parted, whole)
                    self.goes_on(((text,) + BEHIND[3], (tree,) + STACKS[4]), parted, whole)

    def test_in_many_small_parts(self):
        for text, tree in RUNS + drawn_runs(12, 40):
            stand, tally = begin(text, tree), NOTHING
            for unused in range(80):
                budget = 1 if ended(stand) else cost(event(stand))
                if cost(tally) + budget > 80:
                    break
                stand, one = gone(stand, budget)
                tally = added(tally, one)
            self.assertEqual((stand, tally), gone(begin(text, tree), 80))

    def test_one_step_is_the_next_stand(self):
        for text, tree in RUNS + drawn_runs(13, 100):
            stand = begin(text, tree)
            for unused in range(40):
                if ended(stand):
                    break
                step = event(stand)
                self.assertEqual(gone(stand, cost(step)), (next_of(stand), step))
                self.assertEqual(gone(stand, cost(step) - 1), (stand, NOTHING))
                stand = next_of(stand)


class Large(unittest.TestCase):

    def test_known_trees(self):
        for name, (tree, count, unasked) in KNOWN.items():
            with self.subTest(name):
                head, others = (tree[0] if tree else ()), tree[1:]
                self.assertTrue(run((), tree, 1) == ("told", tree, 1))
                self.assertTrue(run(read("twin"), tree, count + 1) == ("told", tree, count + 1))
                self.assertTrue(run(read("twin"), tree, count) == ("out", (), count))
                self.assertTrue(run(read("twin"), tree, count - 1) == ("out", (), 0))
                self.assertTrue(run(read("part"), tree, 2) == ("told", head, 2))
                self.assertTrue(run(read("part swap"), tree, 3) == ("told", others, 3))
                self.assertTrue(run(read("part front"), tree, 3) == ("told", (head,) + others, 3))
                self.assertTrue(run(read("part swap twin"), tree, count + 9)[1] == others)
                self.assertEqual(tally_of(read("part swap twin"), tree, count + 9)[13], measured(others)[0])
                self.assertTrue(run((word(0, tree),), A, 2) == ("told", tree, 2))
                self.assertEqual(tally_of((word(8, tree), word(1)), A, 1), (0,) * 9 + (1, 0, 0, 0, 0, count))
                self.assertTrue(gone(((tree, tree), (tree, tree)), 0) == (((tree, tree), (tree, tree)), NOTHING))

    def test_long_rows(self):
        row = (A, B, C, ()) * 25000
        told = run(TURNED_ABOUT, row, LARGEST_BUDGET)
        self.assertTrue(told == ("told", tuple(reversed(row)), 700005))
        self.assertEqual(tally_of(TURNED_ABOUT, row, LARGEST_BUDGET),
                         (1, 1, 0, 200001, 100000, 100000, 100000, 0, 0, 100000, 1, 0, 100001, 0, 3200000))

    def test_a_long_row_half_turned_about(self):
        row = (A, B, C) * 1000
        stand, tally = gone(begin(TURNED_ABOUT, row), 2 + 7 * 1300)
        self.assertEqual(stand, ((TURNED_ABOUT[2:],), (row[1300:], row[:1300][::-1])))
        self.assertEqual(gone(stand, 7 * 1700 + 3), (((), (row[::-1],)), gone(stand, LARGEST_BUDGET)[1]))

    def test_rows_within_rows(self):
        # What is parted and fronted lies within other rows that were parted and fronted, too.
        text = read("part twin front swap part swap front front twin part swap front")
        for tree in ((A, B, C), (C, comb(5), broad(9), A), (broad(300),) * 3):
            self.assertEqual(gone(begin(text, tree), 10000), walked(((text,), (tree,)), 10000)[-1][:2])

    def test_long_texts_and_stacks(self):
        text = read("'() twin part drop") * 20000
        self.assertEqual(run(text, A, LARGEST_BUDGET), ("told", (), 80001))
        stand = ((read("drop"),) * 40000, broad(30000) + (A,) * 5000)
        self.assertEqual(gone(stand, LARGEST_BUDGET), (((), ()), (0, 40000) + (0,) * 10 + (40000, 0, 0)))
        self.assertTrue(gone(stand, 59999)[0] == (((),) + (read("drop"),) * 10000, (A,) * 5000))

    def test_forks_within_one_another(self):
        text = chain_of_forks(100)
        self.assertEqual(run(text, A, 1000), ("told", B, 202))
        self.assertEqual(run(text, (), 1000), ("told", (), 3))

    def test_the_same_tree_very_often(self):
        # To count all parts of these trees would take for ever.
        huge = doubled(200)
        self.assertEqual(run(read("twin"), huge, LARGEST_BUDGET), ("out", (), 0))
        self.assertEqual(run(read("drop '(()) twin"), huge, LARGEST_BUDGET), ("told", A, 5))
        self.assertEqual(run(read("part twin"), huge, LARGEST_BUDGET), ("out", (), 1))
        self.assertEqual(run(read("'() front part drop part swap twin"), huge, LARGEST_BUDGET), ("out", (), 6))
        self.assertEqual(run(read("'() front twin"), huge, LARGEST_BUDGET), ("out", (), 2))
        self.assertEqual(tally_of(read("part swap part twin"), huge, 100), (0, 0, 0, 1, 0, 2) + (0,) * 9)

    def test_the_same_tree_very_often_in_a_text(self):
        huge = doubled(200)
        text = (word(8, huge), word(7, ((), word(0, huge))), word(9, huge), word(1, huge), word(0, A))
        self.assertEqual(run(text, (), 100), ("told", A, 8))
        self.assertTrue(gone(begin(text, ()), 3)[0] == (((), text[2:]), (huge, ())))
        self.assertTrue(gone(begin((word(0, huge),), A), 9)[0] == ((), (huge, A)))

    def test_a_large_body_gone_into_often(self):
        body = read("drop '(())") + (word(7, ((), word(0, broad(90000)))),)
        text = (word(8, body),)
        size = measured(body)[0]
        told = tally_of(text, A, LARGEST_BUDGET)
        self.assertEqual(cost(told), LARGEST_BUDGET)
        self.assertEqual(told[14], told[9] * size)
        self.assertGreater(told[9], 100000)

    def test_a_stack_that_grows(self):
        stand, tally = gone(begin(read("while [ '(()) ]"), A), 30000)
        self.assertTrue(stand == ((read("while [ '(()) ]"),), (A,) * 10001))
        self.assertEqual(cost(tally), 30000)

    def test_as_deep_as_the_bound(self):
        text = read("while [ '() swap front ]")
        stand, tally = gone(begin(text, A), 298 * 5)
        self.assertEqual(stand, ((text,), (chain(299),)))


def chain_of_forks(deep):
    """A text that goes, where its input isn't the leaf, through forks within one another."""
    text = (word(0, B),)
    for unused in range(deep):
        text = (word(7, (text,)),)
    return text
