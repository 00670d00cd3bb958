"""The kinds of values that are passed: integers, names, lists and dicts of cells."""

LETTERS = "abcdefghijklmnopqrstuvwxyz"


def is_integer(thing):
    """Tells whether an object is an integer; truth values are none."""
    return isinstance(thing, int) and not isinstance(thing, bool)


def is_name(thing):
    """Tells whether an object is a name: one to eight letters from a to z."""
    return isinstance(thing, str) and 1 <= len(thing) <= 8 and all([letter in LETTERS for letter in thing])


def is_list(thing):
    """Tells whether an object is a list; a tuple may stand for one everywhere."""
    return isinstance(thing, (list, tuple))


def is_setting(thing):
    """Tells whether an object is a dict from names to integers."""
    return isinstance(thing, dict) and all([is_name(key) and is_integer(thing[key]) for key in thing])
