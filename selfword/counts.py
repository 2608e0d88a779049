"""Counts: what the selfrunner takes for a run, told from what the run itself took; and towers of selfrunners."""

from selfword.putting import put
from selfword.selfrun import selfrunner
from selfword.stands import added

# What the selfrunner takes up to its first head and behind its last one.
ALWAYS = (2, 2, 0, 1, 2, 2, 2, 0, 0, 0, 1, 0, 1, 0, 0)

# What it takes more for one of each place of the run's tally. A step of the run is a round of the selfrunner's while,
# from a head to the next; a part that the run copies, or of a body that it goes into, is a part that the selfrunner
# copies. The tests measure all these numbers.
EACH = (
    (0, 1, 0, 1, 2, 3, 4, 1, 1, 1, 0, 0, 3, 0, 1169),
    (0, 4, 0, 3, 1, 5, 0, 2, 1, 1, 0, 0, 4, 0, 1169),
    (0, 4, 1, 6, 3, 6, 1, 3, 1, 1, 0, 0, 5, 0, 1169),
    (0, 5, 0, 8, 3, 8, 1, 4, 1, 1, 0, 0, 6, 0, 1169),
    (0, 6, 0, 7, 3, 9, 1, 5, 1, 1, 0, 0, 7, 0, 1169),
    (0, 7, 0, 8, 3, 10, 2, 6, 1, 1, 0, 0, 8, 0, 1169),
    (0, 8, 0, 12, 4, 12, 2, 7, 1, 1, 0, 0, 9, 0, 1169),
    (0, 9, 0, 9, 3, 12, 4, 9, 1, 1, 0, 0, 11, 0, 1169),
    (0, 9, 0, 8, 3, 12, 4, 8, 2, 1, 0, 0, 11, 0, 1169),
    (0, 0, 1, 19, 15, 14, 7, 10, 1, 1, 0, 0, 12, 0, 1169),
    (0, 1, 0, 17, 11, 12, 4, 9, 2, 1, 0, 0, 12, 0, 1169),
    (0, 10, 0, 8, 1, 11, 0, 10, 0, 1, 0, 0, 11, 0, 1169),
    (0, 1, 0, 0, 0, 1, 0, 0, 1, 1, 0, 0, 2, 0, 1169),
    (0, 0, 0, 0, 0, 0, 0, 0, 0, 0, 0, 0, 0, 1, 0),
    (0, 0, 0, 0, 0, 0, 0, 0, 0, 0, 0, 0, 0, 1, 0),
)

# The lay and the front of a text that is put into another one.
PUT_IN = (1, 0, 0, 0, 1, 0, 0, 0, 0, 0, 0, 0, 0, 0, 0)


def turned(tally):
    """The tally of the selfrunner's whole run on a text and a tree, told from that of the text's own run."""
    taken = ALWAYS
    for times, numbers in zip(tally, EACH):
        taken = added(taken, tuple([times * number for number in numbers]))
    return taken


def tower(height, text):
    """The text with so many selfrunners around it, one in the other: it does what the text itself does."""
    built = text
    for level in range(height):
        built = put(selfrunner(), built)
    return built


def tower_tally(height, tally):
    """The tally of a whole run of the tower of this height, told from that of its text's own run."""
    taken = tally
    for level in range(height):
        taken = added(PUT_IN, turned(taken))
    return taken
