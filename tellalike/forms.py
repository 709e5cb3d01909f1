"""Whether values have the plain forms of which all others are built."""


def is_integer(thing):
    """Whether thing is an integer; True and False are none."""
    return isinstance(thing, int) and not isinstance(thing, bool)


def is_pair(thing):
    """Whether thing is a tuple of two values."""
    return isinstance(thing, tuple) and len(thing) == 2


def is_ascending(items):
    """Whether items that can be compared are sorted, and none is there twice."""
    return all([items[k] < items[k + 1] for k in range(len(items) - 1)])


def ascending(items):
    """The ascending tuple of the items, each once."""
    found = []
    for item in sorted(items):
        if not found or found[-1] != item:
            found.append(item)
    return tuple(found)
