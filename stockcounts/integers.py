"""What an integer is."""


def is_integer(value):
    """Return whether any value is an integer; True and False are none."""
    return isinstance(value, int) and not isinstance(value, bool)


def is_within(value, least, greatest):
    """Return whether any value is an integer from the least to the greatest one."""
    return is_integer(value) and least <= value <= greatest
