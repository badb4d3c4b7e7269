"""Questions about the kind of any value, which raise no error."""


def is_int(value):
    """Tell whether a value is an integer; True and False are none."""
    return isinstance(value, int) and not isinstance(value, bool)


def is_int_pair(value):
    """Tell whether a value is a tuple of two integers."""
    if not isinstance(value, tuple) or len(value) != 2:
        return False
    return is_int(value[0]) and is_int(value[1])
