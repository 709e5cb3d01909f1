"""Sets of positions as numbers with a bit for each position."""


def bits(number):
    """The positions of the bits of a number from 0 on, least first."""
    found = []
    while number:
        least = number & -number
        found.append(least.bit_length() - 1)
        number = number - least
    return found


def is_within(few, many):
    """Whether each bit of the number few is one of the number many."""
    return few & many == few


def chosen(items, thing):
    """A bit for each of the ascending items that is in thing; None if thing is no ascending tuple of such items.

    Only == is used with what is in thing: its items need not be values that can be sorted.
    """
    if not isinstance(thing, tuple):
        return None
    found = 0
    at = 0
    for k, item in enumerate(items):
        if at < len(thing) and thing[at] == item:
            found = found | 1 << k
            at = at + 1
    return found if at == len(thing) else None
