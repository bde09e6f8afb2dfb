"""Tests of single values, for all files of the package."""


def is_name(thing):
    """Whether thing is a string of 1 to 8 letters from a to z."""
    if not isinstance(thing, str) or len(thing) > 8:
        return False
    return thing.isascii() and thing.isalpha() and thing.islower()


def is_whole(thing):
    """Whether thing is an integer; a boolean is none."""
    return isinstance(thing, int) and not isinstance(thing, bool)


def is_whole_between(thing, low, high):
    """Whether thing is an integer from low to high."""
    return is_whole(thing) and low <= thing <= high
