"""The selfrunner: a text of the language that runs texts; and which of its stands show a stand of the run.

Topmost on its stack it keeps K and D, the texts and the stack of a stand, and makes of them, time and again, those of
the next one. In the remarks a stack is written from its top on, x.y is y with x ahead of its items, and

    K = p.Q     the text that is gone through, and those behind it
    D = a.E     the stack's top, and what lies beneath
    p = w.r     the next word, and those behind it
    w = F.L     the word's first, and its load
    R = r.Q     the texts behind a word that goes on within its text

What it takes for a step must hang on nothing but the step's place in a tally and the parts that are told there. So no
tree is copied but a, for a twin, and L, for a while's body; and the items of F, which tell the sort, are kept until it
is known, since a while stays whole: they may be any trees.
"""

from selfword.trees import first
from selfword.words import FORK, LAY, WHILE, fork, lay, loop, plains, sort_of

# L r Q D  to  R L.D
LAID = "turn turn front turn turn front swap"

# L r Q D  to  a E R
STACK_PARTED = "drop front swap part"

# By the sorts from drop to turn (lay has another way):  a E  to what the word makes of a.E
WORKED = (
    "",
    "drop",
    "twin turn swap front swap front",
    "swap part swap turn front swap front",
    "swap part turn front front",
    "part turn turn front swap front",
    "swap part swap part swap turn front turn front swap front",
)

# x r Q D  to  a E R x
TOP_REACHED = "turn turn front turn part"

# a E R L  to  yes.R a.E,  and to  no.R a.E
INTO_YES = "front swap turn part swap drop front"
INTO_NO = "front swap turn part drop front"

# a E R w  to  L.K a.E,  and to  R a.E
INTO_BODY = "front swap turn part swap twin turn front turn part turn front front swap front"
PAST_BODY = "front turn drop swap"


def selfrunner():
    """The text that tells, run on a tree, what its first tells, run on its rest."""
    return opening() + from_head()


def opening():
    """z, which is p.x, becomes the K and the D at which p's run on x begins: (p) (x)."""
    wrapped = (lay(()),) + plains("turn front")
    return plains("part") + wrapped + wrapped


def from_head():
    """The text that is next at each head: K D becomes, by way of all stands behind it, what the run tells."""
    return (loop(stepped()),) + plains("drop part swap drop")


def stepped():
    """K D, K not the leaf, becomes the K and the D of the next stand."""
    word_gone = plains("part part") + by_sort()
    shut = plains("drop")
    return plains("part") + (fork(word_gone, shut),)


def by_sort():
    """F L r Q D becomes the K and the D behind the word."""
    # Item by item comes off F and goes beneath what is left of it, until that is the leaf or eight are gone.
    text = (fork(nameless_gone(), while_gone()),)
    for sort in reversed(range(WHILE)):
        text = (fork(plains("part swap") + text, gone_of(sort)),)
    return text


def gone_of(sort):
    """The leaf, as many items as the sort tells, and L r Q D become the K and the D behind a word from lay to fork."""
    cleared = plains("drop") * (sort + 1)
    if sort == LAY:
        return cleared + plains(LAID)
    if sort == FORK:
        return cleared + plains(TOP_REACHED) + (fork(plains(INTO_YES), plains(INTO_NO)),)
    return cleared + plains(STACK_PARTED) + plains(WORKED[sort]) + plains("swap")


def while_gone():
    """The leaf, the eight items of F, and L r Q D become the K and the D behind a while."""
    word_whole = plains("swap front") * WHILE + plains("front")
    return word_whole + plains(TOP_REACHED) + (fork(plains(INTO_BODY), plains(PAST_BODY)),)


def nameless_gone():
    """What is left of F behind eight items, these, and L r Q D become R D."""
    return plains("drop") * (WHILE + 2) + plains("front")


def shown(stand):
    """The stand that a stand of the selfrunner's runs shows, if it is a head; else None."""
    text = first(stand[0])
    # Nothing but the text at a head begins with a while: other stands are told without making that text.
    if sort_of(first(text)) != WHILE or text != from_head():
        return None
    return stand[1][:2]
