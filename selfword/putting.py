"""Putting a tree into a text, and the text that does so."""

from selfword.words import FRONT, lay, plain, plains


def put(text, tree):
    """The text that does on each x what the text does on x with the tree put ahead of its items."""
    return (lay(tree), plain(FRONT)) + text


def putter():
    """The text that tells, run on a tree, its second item put into its first."""
    # Of z the text p comes off first and gets the word front ahead of it; then the tree d comes off, and is made a
    # word of lay by a leaf ahead of it. What else z holds is dropped.
    leaf = (lay(()),)
    front = (lay(plain(FRONT)),)
    return plains("part") + front + plains("front swap part") + leaf + plains("front swap drop front")
