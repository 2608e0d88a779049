"""Trees, words and texts for the tests, made without the program."""

DEEPEST = 300
LARGEST = 100000


def chain(deep):
    """The tree of this depth whose items are one in the other, each alone."""
    tree = ()
    for unused in range(deep):
        tree = (tree,)
    return tree


def comb(deep):
    """A tree of this depth with leaves ahead of and behind each deeper item: 3 * deep + 1 parts."""
    tree = ()
    for unused in range(deep):
        tree = ((), tree, ())
    return tree


def broad(items):
    """A tree of so many leaves."""
    return ((),) * items


def doubled(times):
    """A tree that holds the same tree twice, so many times one in the other."""
    tree = ()
    for unused in range(times):
        tree = (tree, tree)
    return tree


def trees_of(count):
    """All trees of so many parts."""
    return rows_of(count - 1)


def rows_of(count):
    """All rows of trees that have so many parts together."""
    if count == 0:
        return [()]
    found = []
    for head in range(1, count + 1):
        for one in trees_of(head):
            for others in rows_of(count - head):
                found.append((one,) + others)
    return found


def small_trees(most):
    """All trees of at most so many parts."""
    found = []
    for count in range(1, most + 1):
        found.extend(trees_of(count))
    return found


def measured(tree):
    """(parts, depth) by the document's words, a call in a call: for trees some hundred deep at most."""
    count = 1
    deep = 0
    for item in tree:
        inner = measured(item)
        count += inner[0]
        deep = max(deep, inner[1] + 1)
    return (count, deep)


def written(tree):
    """The writing by the document's words, a call in a call: for trees some hundred deep at most."""
    signs = "("
    for item in tree:
        signs += written(item)
    return signs + ")"


def word(sort, load=()):
    """The word of this sort and load whose first has only leaves as items."""
    return (broad(sort),) + load


def spelling(text):
    """The writing as a text by the document's words, a call in a call: for texts some hundred deep at most."""
    pieces = []
    for one in text:
        head, load = (one[0] if one else ()), one[1:]
        if not one or any(item != () for item in head):
            pieces.append("!" + written(one))
        elif len(head) == 0:
            pieces.append("'" + written(load))
        elif 1 <= len(head) <= 6 and not load:
            pieces.append(["drop", "twin", "swap", "front", "part", "turn"][len(head) - 1])
        elif len(head) == 7 and load:
            inner = ("fork [", spelling(load[0]), "|", spelling(load[1:]), "]")
            pieces.append(" ".join(part for part in inner if part))
        elif len(head) == 8:
            inner = ("while [", spelling(load), "]")
            pieces.append(" ".join(part for part in inner if part))
        else:
            pieces.append("!" + written(one))
    return " ".join(pieces)


def tuples_all_through(tree):
    """Whether a tree is built of plain tuples and nothing else."""
    waiting = [tree]
    while waiting:
        part = waiting.pop()
        if type(part) is not tuple:
            return False
        waiting.extend(part)
    return True


# Firsts of words: with no to ten and with many more leaves, and some with an item that is no leaf.
HEADS = [broad(count) for count in range(11)] + [broad(500)]
ODD_HEADS = [(((),),), ((), ((),)), (((),), ()), ((((),),), (), ()), broad(5) + (broad(2),), broad(6) + (broad(1),),
             (broad(1),) + broad(7), broad(4) + (broad(1),) + broad(4), broad(8) + (broad(1),), broad(30) + (broad(3),)]

# name: (tree, its parts, its depth), told by how the tree is made.
KNOWN = {
    "leaf": ((), 1, 0),
    "one leaf": (((),), 2, 1),
    "two leaves": (((), ()), 3, 1),
    "deeper behind": (((), ((),)), 4, 2),
    "deeper ahead": ((((),), ()), 4, 2),
    "mixed": ((((), ()), (), (((),), ())), 9, 3),
    "as deep as the bound": (chain(DEEPEST), DEEPEST + 1, DEEPEST),
    "somewhat deeper": (chain(DEEPEST + 50), DEEPEST + 51, DEEPEST + 50),
    "deep, with leaves beside": (comb(DEEPEST), 3 * DEEPEST + 1, DEEPEST),
    "as large as the bound": (broad(LARGEST - 1), LARGEST, 1),
    "somewhat larger": (broad(LARGEST + 500), LARGEST + 501, 1),
    "as deep and as large": ((chain(DEEPEST - 1),) + broad(LARGEST - DEEPEST - 1), LARGEST, DEEPEST),
    "deepest last": (broad(LARGEST - DEEPEST - 1) + (chain(DEEPEST - 1),), LARGEST, DEEPEST),
    "deepest between": (broad(500) + (chain(DEEPEST - 1),) + broad(500), DEEPEST + 1001, DEEPEST),
    "the same tree twice, 15 times": (doubled(15), 2 ** 16 - 1, 15),
    "the same tree twice, 16 times": (doubled(16), 2 ** 17 - 1, 16),
    "the same deep tree many times": ((chain(99),) * 900, 90001, 100),
    "the same broad tree many times": ((broad(99),) * 999, 99901, 2),
}
