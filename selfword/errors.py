"""The refusals of the program."""


class SelfError(ValueError):
    """Any refusal."""


class NoTree(SelfError):
    """What was to be read as a tree is not the writing of one."""


class NoText(SelfError):
    """What was to be read as a text is not the writing of one."""
