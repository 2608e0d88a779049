"""Stands of a run, the next one of each, and tallies of the steps between them."""

from selfword.trees import first, parts, rest
from selfword.words import DROP, FORK, FRONT, LAY, NAMELESS, PART, SWAP, TURN, TWIN, WHILE, load_of, sort_of

# The places of a tally. The words from lay to turn have theirs at their sorts.
FORK_YES = 7
FORK_NO = 8
WHILE_INTO = 9
WHILE_PAST = 10
NO_WORD = 11
SHUT = 12
COPIED = 13
BODIES = 14
PLACES = 15

# How many trees of the stack a step looks at, by its place in a tally.
LOOKS = (0, 1, 1, 2, 2, 1, 3, 1, 1, 1, 1, 0, 0)


def begin(text, tree):
    """The stand at which a run of a text on a tree begins."""
    return ((text,), (tree,))


def ended(stand):
    """Whether a stand is an end: no text is still to be gone through."""
    return stand[0] == ()


def next_of(stand):
    """The stand behind one that is no end."""
    texts = stand[0]
    step = step_of(stand)
    stack = filled(stand[1], LOOKS[step])
    if step == SHUT:
        return (texts[1:], stack)
    text = texts[0]
    load = load_of(text[0])
    behind = (rest(text),) + texts[1:]
    if step == FORK_YES:
        return ((first(load),) + behind, stack)
    if step == FORK_NO:
        return ((rest(load),) + behind, stack)
    if step == WHILE_INTO:
        return ((load,) + texts, stack)
    return (behind, worked(step, load, stack))


def step_of(stand):
    """The place, in a tally, of the step from a stand to the next."""
    text = first(stand[0])
    if text == ():
        return SHUT
    # Of an empty stack the first is the leaf, which is just what would be put beneath it.
    return place_of(sort_of(text[0]), first(stand[1]))


def place_of(sort, top):
    """The place, in a tally, of the step that a word of this sort goes where this is the top of the stack."""
    if sort == FORK:
        return FORK_NO if top == () else FORK_YES
    if sort == WHILE:
        return WHILE_PAST if top == () else WHILE_INTO
    return NO_WORD if sort == NAMELESS else sort


def filled(stack, count):
    """A stack with leaves beneath it until it has so many items."""
    return stack + ((),) * (count - len(stack))


def worked(step, load, stack):
    """The stack behind a step that goes on within its text; the stack has all that the step looks at."""
    if step == LAY:
        return (load,) + stack
    if step == DROP:
        return stack[1:]
    if step == TWIN:
        return (stack[0],) + stack
    if step == SWAP:
        return (stack[1], stack[0]) + stack[2:]
    if step == FRONT:
        return ((stack[0],) + stack[1],) + stack[2:]
    if step == PART:
        return (first(stack[0]), rest(stack[0])) + stack[1:]
    if step == TURN:
        return (stack[2], stack[0], stack[1]) + stack[3:]
    return stack


def event(stand):
    """The tally of the one step from a stand, which is no end, to the next."""
    step = step_of(stand)
    numbers = [0] * PLACES
    numbers[step] = 1
    if step == TWIN:
        numbers[COPIED] = parts(first(stand[1]))
    if step == WHILE_INTO:
        numbers[BODIES] = parts(load_of(stand[0][0][0]))
    return tuple(numbers)


def cost(tally):
    """The steps of a tally: a twin takes as many as it copies parts, each other word and a shut one."""
    return sum(tally[:COPIED]) - tally[TWIN] + tally[COPIED]


def added(one, other):
    """Two tallies as one, number by number."""
    return tuple([mine + yours for mine, yours in zip(one, other)])
