"""The desk: runs that are asked for and answered in writing."""

from selfword.brackets import read_tree, show_tree
from selfword.reading import read
from selfword.runner import run


def answered(signs, tree_signs, budget):
    """What a run tells, in writing: of a text's writing (or NoText), a tree's writing (or NoTree) and a budget."""
    text = read(signs)
    tree = read_tree(tree_signs)
    told = run(text, tree, budget)
    steps = told[2]
    if told[0] == "out":
        return f"out {steps}"
    tree_told = show_tree(told[1])
    return f"told {tree_told} {steps}"
