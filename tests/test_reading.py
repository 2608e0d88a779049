"""Promise [6], how texts are read and what is refused: selfword/reading.py."""

import itertools
import unittest

from helper import DEEPEST, HEADS, KNOWN, ODD_HEADS, broad, small_trees, spelling, tuples_all_through, word, written
from selfword.errors import NoText, NoTree, SelfError
from selfword.reading import read
from selfword.words import fork, lay, loop, plain
from selfword.writing import show

DROP, TWIN, TURN = plain(1), plain(2), plain(6)
NAMES = ["drop", "twin", "swap", "front", "part", "turn"]
LONG = "twin fork [ drop while [ '(()) part ] | fork [ | !() ] turn ] while [ ] '() !((())()) swap front"


def rows_written_by(count, singles):
    """All (signs, text) that are written by so many pieces, of these words of one piece, of forks and whiles."""
    found = [("", ())] if count == 0 else []
    for head in range(1, count + 1):
        for signs, one in words_written_by(head, singles):
            for others, behind in rows_written_by(count - head, singles):
                found.append(((signs + " " + others).strip(), (one,) + behind))
    return found


def words_written_by(count, singles):
    """All (signs, word) that are written by so many pieces."""
    found = list(singles.items()) if count == 1 else []
    for signs, body in rows_written_by(count - 3, singles) if count >= 3 else []:
        found.append((" ".join(("while [ " + signs + " ]").split()), (broad(8),) + body))
    for ahead in range(count - 3):
        for signs, yes in rows_written_by(ahead, singles):
            for others, no in rows_written_by(count - 4 - ahead, singles):
                found.append((" ".join(f"fork [ {signs} | {others} ]".split()), (broad(7), yes) + no))
    return found


class Forms(unittest.TestCase):

    def told(self, signs, text):
        self.assertEqual(read(signs), text)
        self.assertTrue(tuples_all_through(read(signs)))

    def test_the_text_without_signs(self):
        self.told("", ())

    def test_lays(self):
        self.told("'()", (lay(()),))
        self.told("'(())", (lay(((),)),))
        self.told("'(()(())) '()", (lay(((), ((),))), lay(())))

    def test_lays_of_known_trees(self):
        for name, (tree, unused, unasked) in KNOWN.items():
            with self.subTest(name):
                self.assertTrue(read("'" + written(tree)) == (((),) + tree,))

    def test_plain_words(self):
        for sort in range(1, 7):
            self.told(NAMES[sort - 1], (plain(sort),))
        self.told("drop twin swap front part turn", tuple(plain(sort) for sort in range(1, 7)))

    def test_forks(self):
        self.told("fork [ | ]", (fork((), ()),))
        self.told("fork [ drop | ]", (fork((DROP,), ()),))
        self.told("fork [ | drop ]", (fork((), (DROP,)),))
        self.told("fork [ drop twin | turn '() ] drop", (fork((DROP, TWIN), (TURN, lay(()))), DROP))

    def test_whiles(self):
        self.told("while [ ]", (loop(()),))
        self.told("while [ drop ]", (loop((DROP,)),))
        self.told("while [ drop '() ] twin", (loop((DROP, lay(()))), TWIN))

    def test_one_within_the_other(self):
        self.told("fork [ fork [ | drop ] | while [ ] fork [ twin | ] ]",
                  (fork((fork((), (DROP,)),), (loop(()), fork((TWIN,), ()))),))
        self.told("while [ while [ while [ ] ] fork [ | ] ]", (loop((loop((loop(()),)), fork((), ()))),))

    def test_odd_words(self):
        self.told("!()", ((),))
        self.told("!() drop !()", ((), DROP, ()))
        self.told("!((())())", (word(1, ((),)),))
        self.told("!((()()()()()()()))", (word(7),))
        self.told("while [ !((()()()()()()())) ]", (loop((word(7),)),))
        for head in ODD_HEADS + [broad(9), broad(10), broad(500)]:
            for load in small_trees(4):
                self.told("!" + written((head,) + load), ((head,) + load,))
        for sort in range(1, 7):
            for load in small_trees(4)[1:]:
                self.told("!" + written(word(sort, load)), (word(sort, load),))

    def test_the_argument_by_name(self):
        self.assertEqual(read(signs="drop"), (DROP,))


class BothWays(unittest.TestCase):

    def both(self, text):
        signs = spelling(text)
        told = read(signs)
        self.assertTrue(told == text, signs[:100])
        self.assertTrue(tuples_all_through(told))
        self.assertTrue(show(told) == signs)

    def test_all_small_trees(self):
        for tree in small_trees(10):
            self.both(tree)

    def test_each_first_with_small_loads(self):
        for head in HEADS + ODD_HEADS:
            for load in small_trees(6):
                self.both(((head,) + load,))

    def test_known_trees(self):
        for name, (tree, unused, unasked) in KNOWN.items():
            with self.subTest(name):
                self.both(tree)
                self.both((loop(tree), fork(tree, tree), DROP))

    def test_texts_of_texts(self):
        texts = [(), (DROP,), (lay(()), TURN), ((),), (fork((), ()),), (loop(()),), (word(7),), (word(9, ((),)),)]
        for one in texts:
            for other in texts:
                self.both((fork(one, other),) + one)
                self.both((loop(one),) + other)
                self.both((loop((fork(one, (loop(other),)),)), fork((fork(other, one),), other)))


class Deep(unittest.TestCase):

    def test_whiles(self):
        for deep in (1, 2, 299, DEEPEST, DEEPEST + 50):
            text = (DROP,)
            for unused in range(deep):
                text = (loop(text),)
            self.assertTrue(read("while [ " * deep + "drop" + " ]" * deep) == text)

    def test_forks_by_their_yes(self):
        for deep in (1, 2, 299, DEEPEST, DEEPEST + 50):
            text = (DROP,)
            for unused in range(deep):
                text = (fork(text, (TWIN,)),)
            self.assertTrue(read("fork [ " * deep + "drop" + " | twin ]" * deep) == text)

    def test_forks_by_their_no(self):
        for deep in (1, 2, 299, DEEPEST, DEEPEST + 50):
            text = ()
            for unused in range(deep):
                text = (fork((TWIN,), text),)
            self.assertTrue(read("fork [ twin | " * deep + "] " * (deep - 1) + "]") == text)

    def test_forks_and_whiles_in_turn(self):
        text = (lay(()),)
        for unused in range(DEEPEST // 3):
            text = (fork((TWIN, loop((DROP, fork((), text)))), ()), TURN)
        signs = "fork [ twin while [ drop fork [ | " * (DEEPEST // 3) + "'()" + " ] ] | ] turn" * (DEEPEST // 3)
        self.assertTrue(read(signs) == text)
        self.assertTrue(show(text) == signs)

    def test_much_deeper_than_calls_go(self):
        for signs in ("while [ " * 5000 + "drop" + " ]" * 5000,
                      "fork [ " * 5000 + "drop" + " | twin ]" * 5000,
                      "fork [ twin | " * 5000 + "'" + "(" * 5000 + ")" * 5000 + " ]" * 5000):
            self.assertTrue(show(read(signs)) == signs)

    def test_a_long_text(self):
        for signs, text in (("drop", DROP), ("!()", ()), ("while [ ]", loop(())), ("fork [ | ]", fork((), ()))):
            count = 300000 // (len(signs) + 1)
            self.assertTrue(read(" ".join([signs] * count)) == (text,) * count)


class Refused(unittest.TestCase):

    def refuse(self, handed):
        with self.assertRaises(NoText, msg=repr(handed)[:100]) as taken:
            read(handed)
        self.assertIs(type(taken.exception), NoText)
        self.assertIsInstance(taken.exception, SelfError)
        self.assertNotIsInstance(taken.exception, NoTree)

    def refuse_all(self, *handed):
        for one in handed:
            with self.subTest(repr(one)[:60]):
                self.refuse(one)

    def test_blanks(self):
        self.refuse_all(" ", "  ", " drop", "drop ", "drop  twin", " '()", "'() ", "fork [  | ]", "fork [ |  ]",
                        "fork  [ | ]", "while [  ]", "while [ ] ", " while [ ]", "fork [ | ] ", "fork [ | ]  drop")
        for place, sign in enumerate(LONG):
            if sign == " ":
                self.refuse(LONG[:place] + " " + LONG[place:])
        self.refuse_all(" " + LONG, LONG + " ")

    def test_blanks_that_lack(self):
        for place, sign in enumerate(LONG):
            if sign == " ":
                self.refuse(LONG[:place] + LONG[place + 1:])

    def test_other_signs_for_blanks(self):
        for sign in "\n\t\r\0\f\v\u00a0\u2003\x1c,;.":
            self.refuse_all("drop" + sign + "twin", "drop" + sign, sign + "drop", sign, "while" + sign + "[ ]")

    def test_unknown_pieces(self):
        self.refuse_all("lay", "lay ()", "lay '()", "loop [ ]", "Drop", "DROP", "dro", "drops", "twins", "dup", "()",
                        "(())", "x", "0", "-", "''()", "!!()", "'!()", "!'()", "'drop", "!drop", "drop()", "drop'()",
                        "Fork [ | ]", "While [ ]", "if [ | ]", "{ }", "while { }", "while ( )", "fork ( | )", "''",
                        "drop | twin", "drop,twin", "shut", "sort", "nine", "yes", "no", "text", "body", "~", "\u00e4")

    def test_trees_that_are_none(self):
        for sign in "'!":
            for signs in ("", "(", ")", "(()", "())", "()()", ")(", "( )", "[]", "()x", "x()", "drop", "(\n)"):
                self.refuse_all(sign + signs, "drop " + sign + signs + " drop", "while [ " + sign + signs + " ]")
            self.refuse_all(sign + " ()", sign + " drop", sign + "(" * 300, sign + "(" * 300 + ")" * 301)

    def test_brackets_that_lack(self):
        self.refuse_all("fork", "while", "fork | ]", "fork drop | twin ]", "while ]", "while drop ]", "while drop",
                        "fork [ |", "fork [ | drop", "while [", "while [ drop", "fork [", "fork [ drop", "drop while",
                        "while [ while [ ]", "fork [ while [ | ]", "while [ fork [ | ]", "fork [ fork [ | ] |",
                        "while [ " * 300 + "]" + " ]" * 298, "while [ while ]", "fork fork [ | ]", "while while [ ]")

    def test_brackets_that_are_too_many(self):
        self.refuse_all("]", "[", "[ ]", "drop ]", "[ drop ]", "drop [ ]", "while [ ] ]", "while [ [ ]",
                        "while [ [ ] ]", "fork [ | ] ]", "fork [ [ | ]", "fork [ | [ ]", "while [ ] [ ]", "] while [ ]",
                        "'() [ ]", "while [ " * 300 + "]" + " ]" * 300, "] [", "while ] [", "fork ] | [")

    def test_strokes_that_lack_or_are_too_many(self):
        self.refuse_all("|", "drop |", "| drop", "fork [ ]", "fork [ drop ]", "fork [ drop drop ]", "fork [ | | ]",
                        "fork [ | drop | ]", "fork [ drop | | twin ]", "while [ | ]", "while [ drop | drop ]",
                        "while [ drop | ]", "fork [ while [ | ] ]", "fork [ | while [ | ] ]", "fork | [ | ]",
                        "fork [ | ] |", "while | [ ]", "fork [ fork [ | ] ]", "fork [ | fork [ ] ]", "[ | ]")

    def test_names_that_lack_or_are_too_many(self):
        self.refuse_all("[ | ]", "[ drop | twin ]", "[ ]", "while fork [ | ]", "fork while [ ]", "fork drop [ | ]",
                        "while '() [ ]", "drop [ | ]", "while [ [ | ] ]", "fork [ [ ] | ]", "fork fork", "while while")

    def test_words_that_are_written_otherwise(self):
        self.refuse_all("!(())", "!(()())", "!((()))", "!((()()))", "!((()()()()()()()()))", "!((()()()()()()())())",
                        "!((()()()()()()()())())", "!((()()()()()()())()())")
        for load in small_trees(5):
            for sort in (0, 8):
                self.refuse("!" + written(word(sort, load)))
            self.refuse("!" + written(fork(load, ())))
            self.refuse("!" + written(fork((), load)))
        for sort in range(1, 7):
            self.refuse("!" + written(plain(sort)))
            self.refuse("while [ !" + written(plain(sort)) + " ]")
            self.refuse("fork [ !" + written(plain(sort)) + " | ]")
            self.refuse("fork [ | !" + written(plain(sort)) + " ]")

    def test_what_is_no_text(self):
        self.refuse_all(0, 1, -1, True, False, None, (), ((),), ("drop",), [], ["drop"], {}, {"drop": 1}, {"drop"},
                        b"drop", b"", bytearray(b"drop"), 1.5, object(), str, NoText(), iter("drop"))

    def test_a_good_text_is_read_as_before_behind_a_refused_one(self):
        once = read(LONG)
        for refused in ("while [", "fork", "fork [ drop |", "drop ", "!(())", "'(", None, 7, "]"):
            self.refuse(refused)
            self.assertEqual(read(LONG), once)
            self.assertEqual(read(""), ())


class AllRowsOfPieces(unittest.TestCase):

    def check(self, count, pieces, singles):
        good = dict(rows_written_by(count, singles))
        for row in itertools.product(pieces, repeat=count):
            signs = " ".join(row)
            try:
                told = read(signs)
            except NoText:
                self.assertNotIn(signs, good)
            else:
                self.assertIn(signs, good)
                self.assertEqual(told, good[signs])

    def test_up_to_five_pieces(self):
        singles = {"drop": DROP, "'()": lay(()), "!()": ()}
        pieces = ["drop", "'()", "!()", "fork", "while", "[", "|", "]", "!(())"]
        for count in range(1, 6):
            self.check(count, pieces, singles)

    def test_up_to_seven_pieces(self):
        for count in range(6, 8):
            self.check(count, ["drop", "fork", "while", "[", "|", "]"], {"drop": DROP})

    def test_up_to_nine_pieces_of_forks(self):
        for count in range(8, 10):
            self.check(count, ["fork", "[", "|", "]"], {})


class Changed(unittest.TestCase):
    """Whatever is read is written just as it was: no tree has two writings."""

    def same_or_refused(self, signs):
        try:
            told = read(signs)
        except NoText:
            return False
        self.assertEqual(spelling(told), signs)
        return True

    def test_a_sign_less_or_other(self):
        self.assertTrue(self.same_or_refused(LONG))
        for place in range(len(LONG)):
            self.same_or_refused(LONG[:place] + LONG[place + 1:])
            for sign in " ()[]|'!dx\n":
                self.same_or_refused(LONG[:place] + sign + LONG[place + 1:])
                self.same_or_refused(LONG[:place] + sign + LONG[place:])

    def test_pieces_changed(self):
        pieces = LONG.split(" ")
        read_ones = 0
        for one in range(len(pieces)):
            for other in range(len(pieces)):
                swapped = list(pieces)
                swapped[one], swapped[other] = swapped[other], swapped[one]
                copied = pieces[:one] + [pieces[other]] + pieces[one:]
                for changed in (swapped, copied, pieces[:one] + pieces[one + 1:]):
                    read_ones += self.same_or_refused(" ".join(changed))
        self.assertGreater(read_ones, 100)
