"""Ends: a text that no teller of ends tells rightly of."""

from selfword.knots import selfmade, selfmaker
from selfword.words import loop, plains


def denial(text):
    """The text that goes on for ever where this one, run on it, tells a tree but the leaf; told the leaf, it ends."""
    # The tree that the denial is run on is dropped first, so that the text's words find nothing but the denial on the
    # stack: they may look at all that lies there. Told no leaf, the while stays: its body has no words.
    return selfmade(plains("swap drop") + selfmaker() + text + (loop(()),))
