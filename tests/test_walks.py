"""Promises [7], [8] and [9] of whole runs: drawn texts and trees against the test's own walk, word by word."""

import unittest

from helper import ODD_HEADS, broad, chain, comb, drawn_runs, small_trees, walked, word
from selfword.reading import read
from selfword.runner import gone, run, tally_of
from selfword.stands import added, begin, cost, ended, event, next_of

A, B, C = ((),), ((), ()), (((),), ())
BUDGET = 120


def words_within(text):
    """All words of a text and of the texts in its forks and whiles, with how deep they are in these."""
    waiting, found = [(text, 0)], []
    while waiting:
        inner, deep = waiting.pop()
        for one in inner:
            head, load = (one[0] if one else ()), one[1:]
            found.append((len(head), head, load, deep))
            if len(head) == 7 and load:
                waiting.extend(((load[0], deep + 1), (load[1:], deep + 1)))
            if len(head) == 8:
                waiting.append((load, deep + 1))
    return found


class Drawn(unittest.TestCase):

    def follow(self, text, tree):
        """Compares runs with each budget at which the walk comes to a stand; tells the walk's last tally."""
        passed = walked(((text,), (tree,)), BUDGET)
        for stand, tally, steps in passed:
            self.assertEqual(gone(begin(text, tree), steps), (stand, tally))
        stand, tally, steps = passed[-1]
        self.assertEqual(gone(begin(text, tree), BUDGET), (stand, tally))
        self.assertEqual(tally_of(text, tree, BUDGET), tally)
        self.assertEqual(cost(tally), steps)
        if stand[0]:
            self.assertEqual(run(text, tree, BUDGET), ("out", (), steps))
        else:
            self.assertEqual(run(text, tree, BUDGET), ("told", stand[1][0] if stand[1] else (), steps))
        return tally

    def test_drawn_texts(self):
        numbers = [0] * 15
        for text, tree in drawn_runs(20, 1500):
            for place, number in enumerate(self.follow(text, tree)):
                numbers[place] += number
        # All that a tally counts was met, often.
        self.assertGreater(min(numbers), 300)

    def test_what_is_drawn(self):
        found = [one for text, tree in drawn_runs(20, 1500) for one in words_within(text)]
        for sort in range(10):
            of_sort = [one for one in found if min(one[0], 9) == sort]
            self.assertGreater(len(of_sort), 100)
            if sort:
                self.assertTrue(any(item for one in of_sort for item in one[1]))
            if 1 <= sort <= 6 or sort == 9:
                self.assertTrue(any(one[2] for one in of_sort))
        self.assertGreater(len([one for one in found if one[3] == 3]), 100)

    def test_the_stands_one_by_one(self):
        for text, tree in drawn_runs(21, 500):
            stand, tally = begin(text, tree), (0,) * 15
            for expected, expected_tally, steps in walked(((text,), (tree,)), BUDGET):
                self.assertEqual((stand, tally), (expected, expected_tally))
                if not ended(stand):
                    tally = added(tally, event(stand))
                    stand = next_of(stand)

    def test_small_trees_as_texts(self):
        for text in small_trees(7):
            self.follow(text, B)
        for text in small_trees(5):
            for tree in small_trees(4):
                self.follow(text, tree)

    def test_each_word_with_loads_and_firsts_of_any_kind(self):
        heads = [broad(count) for count in range(13)] + ODD_HEADS
        for head in heads:
            for load in ((), A, B, (A, ()), (read("drop"), word(5)), ((), word(0, C)), read("part drop drop")):
                one = (head,) + load
                for tree in ((), A, (A, B, C)):
                    self.follow((one,), tree)
                    self.follow((word(5), one, word(0, A), one, one), tree)
                    self.follow((word(1), one, one), tree)

    def test_forks_and_whiles_within_one_another(self):
        for signs in (
                "while [ while [ part drop ] drop ] '(())",
                "while [ part while [ part drop ] drop ] twin",
                "fork [ fork [ fork [ '() | drop ] | twin ] while [ part swap ] | while [ drop ] fork [ twin | '() ] ]",
                "while [ fork [ part fork [ drop | swap drop ] | '(()) ] ] drop",
                "while [ part fork [ while [ part fork [ drop | drop ] ] | ] drop ] '()",
                "while [ part swap while [ part drop ] drop ]"):
            for tree in ((), A, B, C, (C, A, (), B), (broad(3), (C, C)), comb(4), chain(6)):
                self.follow(read(signs), tree)


class TurnedAbout(unittest.TestCase):

    def test_rows_of_up_to_120_items(self):
        text = read("'() swap while [ part turn swap front swap ] drop")
        items = (A, B, C, (), comb(2)) * 24
        for count in range(121):
            row = items[:count]
            self.assertEqual(run(text, row, 1000), ("told", tuple(reversed(row)), 7 * count + 5))
            self.assertEqual(run(text, row, 7 * count + 4), ("out", (), 7 * count + 4))
            self.assertEqual(tally_of(text, row, 1000),
                             (1, 1, 0, 2 * count + 1, count, count, count, 0, 0, count, 1, 0, count + 1, 0, 32 * count))

    def test_stand_by_stand(self):
        text = read("'() swap while [ part turn swap front swap ] drop")
        row = (A, B, C, ()) * 30
        stand = begin(text, row)
        for expected, tally, steps in walked(((text,), (row,)), 2000):
            self.assertEqual(stand, expected)
            self.assertEqual(gone(begin(text, row), steps), (expected, tally))
            if not ended(stand):
                stand = next_of(stand)
        self.assertEqual(stand, ((), (tuple(reversed(row)),)))
