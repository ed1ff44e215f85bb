"""Questions about values of any kind, which the other files share."""


def is_integer(value, least, most):
    """Whether value is an integer from least to most."""
    # Python counts True and False as integers, the document does not.
    return isinstance(value, int) and not isinstance(value, bool) and least <= value <= most


def is_row(value, least, most):
    """Whether value is a tuple of least to most items."""
    return isinstance(value, tuple) and least <= len(value) <= most


def is_pair(value):
    """Whether value is a tuple of two items."""
    return is_row(value, 2, 2)
