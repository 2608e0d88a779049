"""Words: the items of a text, each with a sort and a load."""

from selfword.trees import first, rest

LAY = 0
DROP = 1
TWIN = 2
SWAP = 3
FRONT = 4
PART = 5
TURN = 6
FORK = 7
WHILE = 8
NAMELESS = 9

# The name of a sort lies at the sort's own place.
NAMES = ("lay", "drop", "twin", "swap", "front", "part", "turn", "fork", "while")


def sort_of(word):
    """The sort of a word: how many items its first has, nine or more being one sort."""
    return min(len(first(word)), NAMELESS)


def load_of(word):
    """The load of a word: its rest."""
    return rest(word)


def lay(tree):
    """The word of sort lay with this load; with the load () it is ((),), not ()."""
    return ((),) + tree


def plain(sort):
    """The word of a sort from drop to turn without a load."""
    return (((),) * sort,)


def fork(yes, no):
    """The word of sort fork with this yes and this no."""
    return (((),) * FORK, yes) + no


def loop(body):
    """The word of sort while with this body."""
    return (((),) * WHILE,) + body


def plains(names):
    """The text of the words of plain that have these names, which are parted by blanks."""
    return tuple([plain(NAMES.index(name)) for name in names.split()])
