"""Values as they are passed: sequences of any kind, and whole numbers."""


def frozen(value):
    """Return the value with tuples instead of lists at every level."""
    if isinstance(value, (list, tuple)):
        return tuple([frozen(item) for item in value])
    return value


def is_whole(value):
    """Tell whether the value is a whole number; True and False are none."""
    return isinstance(value, int) and not isinstance(value, bool)
