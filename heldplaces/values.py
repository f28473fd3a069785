"""Questions about single values that callers pass."""


def is_whole(value):
    """True and False are integers for Python, but not here."""
    return isinstance(value, int) and not isinstance(value, bool)


def is_from(value, least):
    """Whether a value is an integer from the least one on."""
    return is_whole(value) and value >= least


def is_between(value, least, most):
    """Whether a value is an integer from the least to the greatest one."""
    return is_whole(value) and least <= value <= most
