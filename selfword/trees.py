"""Trees: tuples of trees, () being the leaf."""


def first(tree):
    """The first item of a tree; of the leaf, the leaf."""
    if tree == ():
        return ()
    return tree[0]


def rest(tree):
    """A tree without its first item; of the leaf, the leaf."""
    return tree[1:]


def parts(tree):
    """How many parts a tree has: itself, and the parts of its items."""
    # A row of trees still to be counted, not a call in a call: trees may be deeper than calls may go.
    waiting = [tree]
    counted = 0
    while waiting:
        part = waiting.pop()
        counted += 1
        waiting.extend(part)
    return counted


def depth(tree):
    """How deep a tree is: the leaf 0, another one deeper than its deepest item."""
    # Level by level, for the same reason as in parts.
    level = list(tree)
    levels = 0
    while level:
        levels += 1
        beneath = []
        for item in level:
            beneath.extend(item)
        level = beneath
    return levels
