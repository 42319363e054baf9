"""What the modules of the package ask of the values that are handed in."""


def is_number(value):
    """Tell whether the value is a whole number; True and False are none."""
    # To Python True and False are integers, too.
    return isinstance(value, int) and not isinstance(value, bool)


def is_number_from(value, low, high):
    """Tell whether the value is a number from the low to the high, both taken."""
    return is_number(value) and low <= value <= high
