"""Texts that know their own text: the selfteller, and knots, which do what texts do that are made of them.

Such a text lays, by its first word, a tree of which it then makes itself. In the remarks a stack is written from its
top on, x.y is y with x ahead of its items, and

    f, h        the texts that make a text of a knot, or of both
    q, r        the knots
    B           the tree that a knot lays first
    E           the words behind those that hang on f and h
    t           what f, or h, makes
    x           the tree that the knot is run on
"""

from selfword.counts import turned
from selfword.selfrun import selfrunner
from selfword.stands import COPIED, SHUT, added
from selfword.trees import parts
from selfword.words import lay, plains

# A knot's words but those of its two selfrunners.
KNOT_WORDS = (3, 0, 1, 2, 4, 0, 0, 0, 0, 0, 0, 0, 0, 0, 0)


def selfmade(body):
    """The text whose first word lays the body, with the body's words behind it."""
    return (lay(body),) + body


def selfmaker():
    """The words that make of a body, on top of the stack, the selfmade text with that body."""
    return plains("twin") + lay_made() + plains("front")


def lay_made():
    """The words that make of a tree, on top of the stack, the word that lays it."""
    return (lay(()),) + plains("front")


def selfteller():
    """The text that tells itself, whatever it is run on."""
    return selfmade(selfmaker())


def knot(text):
    """The text that does on every tree what that text does that this one makes of it."""
    return selfmade(knot_body(text))


def knot_body(text):
    """The B of a knot, lay(f).E: where E begins, f and B lie on the stack, f on top."""
    return (lay(text),) + both_run(selfmaker())


def both_run(own_made):
    """The words that make, of f B x, what t tells of x; the words handed in make of B what f is run on."""
    # The selfrunner looks at nothing beneath its input: f doesn't come to see x.
    return plains("swap") + own_made + plains("swap front") + selfrunner() + plains("front") + selfrunner()


def knot_tally(text, one, other):
    """The tally of the knot's run on x, told from f, from the tally of f's run on the knot and from t's on x."""
    numbers = list(added(KNOT_WORDS, added(turned(one), turned(other))))
    numbers[COPIED] += parts(knot_body(text))
    # Turned counts the shut behind each selfrunner; in the knot only the second one has a shut behind it.
    numbers[SHUT] -= 1
    return tuple(numbers)


def knotter():
    """The text that tells, run on a text, its knot."""
    behind = (lay(both_run(selfmaker())),)
    return lay_made() + behind + plains("swap front") + selfmaker()


def knots(one, other):
    """The two texts that do on every tree what those texts do that these two make of both of them."""
    behind = both_run(both_made())
    base = (one, other) + behind
    return (paired(one, base, behind), paired(other, base, behind))


def paired(text, base, behind):
    """One of two knots: it lays B and its own text, and then goes on like the other."""
    return (lay(base), lay(text)) + behind


def both_made():
    """The words that make of B, which is f.h.E, the tree (q, r)."""
    # B  to  B B  to  r B  to  B (r)  to  q (r)
    row_begun = (lay(()),) + plains("swap front swap")
    return plains("twin") + second_made() + row_begun + first_made() + plains("front")


def first_made():
    """The words that make q of B."""
    # B lay(B)  to  h E f lay(B)  to  f E lay(B)
    return plains("twin") + lay_made() + plains("swap part swap part drop swap") + pair_ended()


def second_made():
    """The words that make r of B."""
    # B lay(B)  to  h E lay(B)
    return plains("twin") + lay_made() + plains("swap part drop part") + pair_ended()


def pair_ended():
    """The words that make lay(B).lay(f).E of f E lay(B)."""
    return lay_made() + plains("front swap front")
