"""What an INTEGER and a COUNT are."""


def is_integer(value):
    """Whether the value is an INTEGER: an int that is no bool."""
    return isinstance(value, int) and not isinstance(value, bool)


def is_count(value):
    """Whether the value is a COUNT: an INTEGER from 0 on."""
    return is_integer(value) and value >= 0
