"""Texts written word by word."""

from selfword.brackets import show_tree
from selfword.trees import first, rest
from selfword.words import FORK, LAY, NAMELESS, NAMES, WHILE, load_of, sort_of


def show(text):
    """The writing of a text: its words, parted by one blank."""
    pieces = []
    # Words and pieces still to be written, the next one last; no call in a call: texts may be deeper than calls may go.
    waiting = list(reversed(text))
    while waiting:
        part = waiting.pop()
        if isinstance(part, str):
            pieces.append(part)
        else:
            waiting.extend(list(reversed(spelled(part))))
    return " ".join(pieces)


def spelled(word):
    """What a word is written of, in this order: pieces, and the words within it."""
    if odd(word):
        return ("!" + show_tree(word),)
    sort = sort_of(word)
    load = load_of(word)
    if sort == LAY:
        return ("'" + show_tree(load),)
    if sort == FORK:
        return (NAMES[FORK], "[") + first(load) + ("|",) + rest(load) + ("]",)
    if sort == WHILE:
        return (NAMES[WHILE], "[") + load + ("]",)
    return (NAMES[sort],)


def odd(word):
    """Whether a word has no other writing than the one with `!`."""
    if word == () or any([item != () for item in first(word)]):
        return True
    sort = sort_of(word)
    if sort in (LAY, WHILE):
        return False
    if sort == FORK:
        return load_of(word) == ()
    return sort == NAMELESS or load_of(word) != ()
