"""Rows: trees as a run keeps them, so that long ones are parted and fronted as fast as short ones.

A row is a tree, or of one of the two classes here, which are never the leaf.
"""

from selfword.trees import first


class Fronted:
    """An item and, behind it, the items of a row."""

    def __init__(self, item, behind):
        self.item = item
        self.behind = behind


class Later:
    """The items of a tree from a place on, at least one."""

    def __init__(self, tree, place):
        self.tree = tree
        self.place = place


def first_of(row):
    """The first item of a row; of the leaf, the leaf."""
    if isinstance(row, Fronted):
        return row.item
    if isinstance(row, Later):
        return row.tree[row.place]
    return first(row)


def rest_of(row):
    """A row without its first item; of the leaf, the leaf."""
    if isinstance(row, Fronted):
        return row.behind
    if isinstance(row, Later):
        return later(row.tree, row.place + 1)
    return later(row, 1)


def later(tree, place):
    """The row of a tree's items from a place on."""
    return Later(tree, place) if place < len(tree) else ()


def unfronted(row):
    """The tree that a row is which isn't fronted."""
    if isinstance(row, Later):
        return row.tree[row.place:]
    return row


def parts_within(row, most):
    """How many parts a row has; where they are more than so many, some number beyond that."""
    # A tree may hold the same one very often: to count it to its end could take far longer than any run.
    waiting = [row]
    counted = 0
    while waiting and counted <= most:
        part = waiting.pop()
        if isinstance(part, Fronted):
            waiting.append(part.item)
            waiting.append(part.behind)
        else:
            counted += 1
            waiting.extend(unfronted(part))
    return counted


def as_tree(row):
    """The tree that a row is."""
    # Of rows within one another: what is still to be taken of each, and the items taken so far.
    ahead = [row]
    taken = [[]]
    while True:
        part = ahead[-1]
        if isinstance(part, Fronted):
            ahead[-1] = part.behind
            ahead.append(part.item)
            taken.append([])
            continue
        ahead.pop()
        tree = tuple(taken.pop()) + unfronted(part)
        if not ahead:
            return tree
        taken[-1].append(tree)
