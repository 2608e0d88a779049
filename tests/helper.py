"""Trees, words, texts and walks for the tests, made without the program."""

import random

DEEPEST = 300
LARGEST = 100000


def chain(deep):
    """The tree of this depth whose items are one in the other, each alone."""
    tree = ()
    for unused in range(deep):
        tree = (tree,)
    return tree


def comb(deep):
    """A tree of this depth with leaves ahead of and behind each deeper item: 3 * deep + 1 parts."""
    tree = ()
    for unused in range(deep):
        tree = ((), tree, ())
    return tree


def broad(items):
    """A tree of so many leaves."""
    return ((),) * items


def doubled(times):
    """A tree that holds the same tree twice, so many times one in the other."""
    tree = ()
    for unused in range(times):
        tree = (tree, tree)
    return tree


def trees_of(count):
    """All trees of so many parts."""
    return rows_of(count - 1)


def rows_of(count):
    """All rows of trees that have so many parts together."""
    if count == 0:
        return [()]
    found = []
    for head in range(1, count + 1):
        for one in trees_of(head):
            for others in rows_of(count - head):
                found.append((one,) + others)
    return found


def small_trees(most):
    """All trees of at most so many parts."""
    found = []
    for count in range(1, most + 1):
        found.extend(trees_of(count))
    return found


def measured(tree):
    """(parts, depth) by the document's words, a call in a call: for trees some hundred deep at most."""
    count = 1
    deep = 0
    for item in tree:
        inner = measured(item)
        count += inner[0]
        deep = max(deep, inner[1] + 1)
    return (count, deep)


def written(tree):
    """The writing by the document's words, a call in a call: for trees some hundred deep at most."""
    signs = "("
    for item in tree:
        signs += written(item)
    return signs + ")"


def word(sort, load=()):
    """The word of this sort and load whose first has only leaves as items."""
    return (broad(sort),) + load


def spelling(text):
    """The writing as a text by the document's words, a call in a call: for texts some hundred deep at most."""
    pieces = []
    for one in text:
        head, load = (one[0] if one else ()), one[1:]
        if not one or any(item != () for item in head):
            pieces.append("!" + written(one))
        elif len(head) == 0:
            pieces.append("'" + written(load))
        elif 1 <= len(head) <= 6 and not load:
            pieces.append(["drop", "twin", "swap", "front", "part", "turn"][len(head) - 1])
        elif len(head) == 7 and load:
            inner = ("fork [", spelling(load[0]), "|", spelling(load[1:]), "]")
            pieces.append(" ".join(part for part in inner if part))
        elif len(head) == 8:
            inner = ("while [", spelling(load), "]")
            pieces.append(" ".join(part for part in inner if part))
        else:
            pieces.append("!" + written(one))
    return " ".join(pieces)


def tuples_all_through(tree):
    """Whether a tree is built of plain tuples and nothing else."""
    waiting = [tree]
    while waiting:
        part = waiting.pop()
        if type(part) is not tuple:
            return False
        waiting.extend(part)
    return True


def moved(stand):
    """The next stand, by the document's words, and of the step: its place in a tally, the parts copied, the body's."""
    texts, stack = list(stand[0]), list(stand[1])
    text = texts.pop(0)
    if not text:
        return (tuple(texts), stand[1]), 12, 0, 0
    head, load = (text[0][0] if text[0] else ()), text[0][1:]
    sort = min(len(head), 9)
    while len(stack) < [0, 1, 1, 2, 2, 1, 3, 1, 1, 0][sort]:
        stack.append(())
    texts.insert(0, text[1:])
    place, copied, body = [0, 1, 2, 3, 4, 5, 6, 8, 10, 11][sort], 0, 0
    if sort == 0:
        stack = [load] + stack
    elif sort == 1:
        stack = stack[1:]
    elif sort == 2:
        copied = measured(stack[0])[0]
        stack = [stack[0], stack[0]] + stack[1:]
    elif sort == 3:
        stack = [stack[1], stack[0]] + stack[2:]
    elif sort == 4:
        stack = [(stack[0],) + stack[1]] + stack[2:]
    elif sort == 5:
        stack = [stack[0][0] if stack[0] else (), stack[0][1:]] + stack[1:]
    elif sort == 6:
        stack = [stack[2], stack[0], stack[1]] + stack[3:]
    elif sort == 7 and stack[0]:
        place, texts = 7, [load[0] if load else ()] + texts
    elif sort == 7:
        texts = [load[1:]] + texts
    elif sort == 8 and stack[0]:
        place, body, texts[0] = 9, measured(load)[0], text
        texts = [load] + texts
    return (tuple(texts), tuple(stack)), place, copied, body


def walked(stand, budget):
    """All stands of a run with this budget from a stand on, each with the tally and the steps to it."""
    tally, steps = [0] * 15, 0
    passed = [(stand, tuple(tally), steps)]
    while stand[0]:
        stand, place, copied, body = moved(stand)
        steps += copied if place == 2 else 1
        if steps > budget:
            break
        tally[place] += 1
        tally[13] += copied
        tally[14] += body
        passed.append((stand, tuple(tally), steps))
    return passed


def drawn_tree(draw, most):
    """A drawn tree of at most so many parts."""
    items, left = [], most - 1
    while left > 0 and draw.random() < 0.7:
        item = drawn_tree(draw, draw.randint(1, left))
        items.append(item)
        left -= measured(item)[0]
    return tuple(items)


def drawn_word(draw, deep):
    """A drawn word with forks and whiles at most so deep in it: of every sort, some firsts and loads of any kind."""
    if draw.random() < 0.05:
        return drawn_tree(draw, 12)
    sort = draw.choice((0, 0, 1, 2, 3, 4, 5, 5, 6, 7, 7, 8, 8, 9, 11) if deep else (0, 0, 1, 2, 3, 4, 5, 5, 6, 9, 10))
    head = list(broad(sort))
    while head and draw.random() < 0.15:
        head[draw.randrange(len(head))] = drawn_tree(draw, 5)
    if sort in (7, 8) and draw.random() < 0.9:
        load = drawn_text(draw, deep - 1)
        if sort == 7:
            load = (load,) + drawn_text(draw, deep - 1)
        elif draw.random() < 0.5:
            # Without these few whiles would be gone past behind their bodies.
            load = (word(5), word(1)) + load
    elif sort == 0 or draw.random() < 0.2:
        load = drawn_tree(draw, 9)
    else:
        load = ()
    return (tuple(head),) + load


def drawn_text(draw, deep):
    """A drawn text with forks and whiles at most so deep in it."""
    return tuple(drawn_word(draw, deep) for unused in range(draw.randint(0, 5)))


def drawn_runs(seed, count):
    """So many drawn pairs of a text and a tree, always the same for a seed."""
    draw = random.Random(seed)
    return [(drawn_text(draw, 3), drawn_tree(draw, 15)) for unused in range(count)]


# Firsts of words: with no to ten and with many more leaves, and some with an item that is no leaf.
HEADS = [broad(count) for count in range(11)] + [broad(500)]
ODD_HEADS = [(((),),), ((), ((),)), (((),), ()), ((((),),), (), ()), broad(5) + (broad(2),), broad(6) + (broad(1),),
             (broad(1),) + broad(7), broad(4) + (broad(1),) + broad(4), broad(8) + (broad(1),), broad(30) + (broad(3),)]

# name: (tree, its parts, its depth), told by how the tree is made.
KNOWN = {
    "leaf": ((), 1, 0),
    "one leaf": (((),), 2, 1),
    "two leaves": (((), ()), 3, 1),
    "deeper behind": (((), ((),)), 4, 2),
    "deeper ahead": ((((),), ()), 4, 2),
    "mixed": ((((), ()), (), (((),), ())), 9, 3),
    "as deep as the bound": (chain(DEEPEST), DEEPEST + 1, DEEPEST),
    "somewhat deeper": (chain(DEEPEST + 50), DEEPEST + 51, DEEPEST + 50),
    "deep, with leaves beside": (comb(DEEPEST), 3 * DEEPEST + 1, DEEPEST),
    "as large as the bound": (broad(LARGEST - 1), LARGEST, 1),
    "somewhat larger": (broad(LARGEST + 500), LARGEST + 501, 1),
    "as deep and as large": ((chain(DEEPEST - 1),) + broad(LARGEST - DEEPEST - 1), LARGEST, DEEPEST),
    "deepest last": (broad(LARGEST - DEEPEST - 1) + (chain(DEEPEST - 1),), LARGEST, DEEPEST),
    "deepest between": (broad(500) + (chain(DEEPEST - 1),) + broad(500), DEEPEST + 1001, DEEPEST),
    "the same tree twice, 15 times": (doubled(15), 2 ** 16 - 1, 15),
    "the same tree twice, 16 times": (doubled(16), 2 ** 17 - 1, 16),
    "the same deep tree many times": ((chain(99),) * 900, 90001, 100),
    "the same broad tree many times": ((broad(99),) * 999, 99901, 2),
}

# Writings of texts that make another text of what they are run on, q being that: the one made tells q; tells q ahead
# of its input's items; tells q ahead of the items of q.
TELLS_IT = "'() front '() swap front"
TELLS_IT_AHEAD = "'() front '(((()()()()))) swap front"
TELLS_IT_TWICE = "twin front '() front '() swap front"
