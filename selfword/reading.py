"""Texts read from their writing."""

from selfword.brackets import read_tree
from selfword.errors import NoText, NoTree
from selfword.words import DROP, FORK, NAMES, TURN, WHILE, fork, lay, loop, plain
from selfword.writing import odd


def read(signs):
    """The text that signs are the writing of; NoText where they are that of none, or no text of signs."""
    if not isinstance(signs, str):
        raise NoText()
    reading = Reading()
    for piece in pieces_of(signs):
        reading.take(piece)
    return reading.whole()


def pieces_of(signs):
    """What stands between the blanks: a doubled blank, one ahead or behind makes a piece without signs."""
    if signs == "":
        return []
    return signs.split(" ")


def word_of(piece):
    """The word that is written by one piece alone."""
    if piece in NAMES[DROP:TURN + 1]:
        return plain(NAMES.index(piece))
    if piece.startswith("'"):
        return lay(tree_of(piece[1:]))
    if piece.startswith("!"):
        word = tree_of(piece[1:])
        if odd(word):
            return word
    raise NoText()


def tree_of(signs):
    """The tree within a piece."""
    try:
        return read_tree(signs)
    except NoTree:
        raise NoText() from None


class Reading:
    """How far a text is read: the rows of words that are still open, the innermost last."""

    def __init__(self):
        self.rows = [[]]
        # What each row is: the text itself, a fork's yes or no (the yes stays open beneath the no), a while's body.
        self.places = ["text"]
        # The name whose bracket must come next, if one must.
        self.named = ""

    def take(self, piece):
        """Reads on by one piece."""
        if (piece == "[") != (self.named != ""):
            raise NoText()
        if piece == "[":
            self.enter("yes" if self.named == NAMES[FORK] else "body")
            self.named = ""
        elif piece in (NAMES[FORK], NAMES[WHILE]):
            self.named = piece
        elif piece == "|" and self.places[-1] == "yes":
            self.enter("no")
        elif piece == "]":
            self.add_word(self.bracketed())
        else:
            self.add_word(word_of(piece))

    def enter(self, place):
        """Opens a row."""
        self.rows.append([])
        self.places.append(place)

    def leave(self):
        """Closes the innermost row; its words as a text."""
        self.places.pop()
        return tuple(self.rows.pop())

    def bracketed(self):
        """The fork or while that a closing bracket ends."""
        if self.places[-1] == "body":
            return loop(self.leave())
        if self.places[-1] != "no":
            raise NoText()
        no = self.leave()
        return fork(self.leave(), no)

    def add_word(self, word):
        """Puts a word behind those of the innermost row."""
        self.rows[-1].append(word)

    def whole(self):
        """The text, where nothing is open but it."""
        if self.named != "" or len(self.rows) != 1:
            raise NoText()
        return tuple(self.rows[0])
