"""Trees written by brackets, and read again."""

from selfword.errors import NoTree


def show_tree(tree):
    """The writing of a tree: a bracket, its items, a bracket."""
    signs = []
    # Trees still to be written, the next one last; None stands where a bracket is to be closed.
    waiting = [tree]
    while waiting:
        part = waiting.pop()
        if part is None:
            signs.append(")")
        else:
            signs.append("(")
            waiting.append(None)
            waiting.extend(list(reversed(part)))
    return "".join(signs)


def read_tree(text):
    """The tree that a text is the writing of; NoTree where it is none, or no text."""
    if not isinstance(text, str):
        raise NoTree()
    # The undermost row lies outside all brackets: it is to hold one tree in the end.
    rows = [[]]
    for sign in text:
        if sign == "(":
            rows.append([])
        elif sign == ")" and len(rows) > 1:
            items = rows.pop()
            rows[-1].append(tuple(items))
        else:
            raise NoTree()
    if len(rows) != 1 or len(rows[0]) != 1:
        raise NoTree()
    return rows[0][0]
