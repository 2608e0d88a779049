"""The runner: whole runs, as far as a budget goes."""

from selfword.rows import Fronted, as_tree, first_of, parts_within, rest_of
from selfword.stands import BODIES, COPIED, FORK_NO, FORK_YES, LOOKS, PLACES, SHUT, WHILE_INTO, begin, cost, place_of
from selfword.trees import first, parts, rest
from selfword.words import DROP, FORK, FRONT, LAY, PART, SWAP, TURN, TWIN, WHILE, load_of, sort_of


def run(text, tree, budget):
    """What a run tells: ("told", TREE, STEPS) at an end, else ("out", (), STEPS)."""
    walk = walked(begin(text, tree), budget)
    steps = cost(walk.tally())
    if walk.at_end():
        return ("told", as_tree(walk.top()), steps)
    return ("out", (), steps)


def tally_of(text, tree, budget):
    """The tally of the steps that a run goes."""
    return walked(begin(text, tree), budget).tally()


def gone(stand, budget):
    """The stand at which a run from this one on stops, and the tally of what it went."""
    walk = walked(stand, budget)
    return (walk.stand(), walk.tally())


def walked(stand, budget):
    """A run from a stand on, gone as far as its budget goes."""
    walk = Walk(stand, budget)
    while not walk.at_end() and walk.step():
        pass
    return walk


class Word:
    """A word as a run meets it: what is told from it alone, looked up once."""

    def __init__(self, tree):
        self.kind = sort_of(tree)
        self.load = load_of(tree)
        self.yes = None
        self.no = None
        self.body = None
        self.size = None
        if self.kind == FORK:
            self.yes = Text(first(self.load))
            self.no = Text(rest(self.load))
        if self.kind == WHILE:
            self.body = Text(self.load)

    def body_parts(self):
        """The parts of a while's body."""
        # Counted once, and only when asked for: a large body may be gone into often, or never.
        if self.size is None:
            self.size = parts(self.load)
        return self.size


class Text:
    """A text as runs go through it: each word is made once, however often it is gone."""

    def __init__(self, tree):
        self.tree = tree
        self.words = []

    def word_at(self, place):
        """The word at a place; at the text's end, None."""
        if place == len(self.tree):
            return None
        # A run comes to the words in their order, so all that stand ahead of this one are made.
        if place == len(self.words):
            self.words.append(Word(self.tree[place]))
        return self.words[place]


class Going:
    """A text of which the words ahead of a place are gone."""

    def __init__(self, text):
        self.text = text
        self.place = 0


class Walk:
    """A run on its way: where it stands, what it went so far, and how many steps are left of its budget."""

    def __init__(self, stand, budget):
        # Both with what comes next at their end, where a list is changed fastest.
        self.goings = [Going(Text(tree)) for tree in reversed(stand[0])]
        self.stack = list(reversed(stand[1]))
        self.numbers = [0] * PLACES
        self.left = budget

    def at_end(self):
        """Whether no text is still to be gone through."""
        return not self.goings

    def top(self):
        """The top of the stack; of an empty one, the leaf."""
        return self.stack[-1] if self.stack else ()

    def tally(self):
        """The tally of what was gone so far."""
        return tuple(self.numbers)

    def stand(self):
        """The stand at which the run is."""
        texts = [going.text.tree[going.place:] for going in reversed(self.goings)]
        return (tuple(texts), tuple([as_tree(row) for row in reversed(self.stack)]))

    def step(self):
        """Goes the next step, unless it takes more than is left; whether it was gone."""
        going = self.goings[-1]
        word = going.text.word_at(going.place)
        step = SHUT if word is None else place_of(word.kind, self.top())
        taken = parts_within(self.top(), self.left) if step == TWIN else 1
        if taken > self.left:
            return False
        self.left -= taken
        self.numbers[step] += 1
        if step == TWIN:
            self.numbers[COPIED] += taken
        while len(self.stack) < LOOKS[step]:
            self.stack.insert(0, ())
        self.move(step, going, word)
        return True

    def move(self, step, going, word):
        """Comes to the next stand; the stack has all that the step looks at."""
        if step == SHUT:
            self.goings.pop()
            return
        if step == WHILE_INTO:
            self.numbers[BODIES] += word.body_parts()
            self.goings.append(Going(word.body))
            return
        going.place += 1
        if step == FORK_YES:
            self.goings.append(Going(word.yes))
        elif step == FORK_NO:
            self.goings.append(Going(word.no))
        else:
            work(step, word.load, self.stack)


def work(step, load, stack):
    """Does to a stack, whose top is its last, what a word does that goes on within its text."""
    if step == LAY:
        stack.append(load)
    elif step == DROP:
        stack.pop()
    elif step == TWIN:
        stack.append(stack[-1])
    elif step == SWAP:
        stack.append(stack.pop(-2))
    elif step == FRONT:
        item = stack.pop()
        stack.append(Fronted(item, stack.pop()))
    elif step == PART:
        row = stack.pop()
        stack.append(rest_of(row))
        stack.append(first_of(row))
    elif step == TURN:
        stack.append(stack.pop(-3))
