"""What the modules ask of anything that is handed in."""

HANDS = (0, 1)


def is_whole(thing):
    """A truth is an int to Python, but no whole number here."""
    return isinstance(thing, int) and not isinstance(thing, bool)


def is_whole_within(thing, least, most):
    return is_whole(thing) and least <= thing <= most


def is_hand(thing):
    return is_whole_within(thing, 0, 1)


def is_rising(things):
    """Whether each thing is greater than the one ahead of it, so each stands there once."""
    return all([things[at] < things[at + 1] for at in range(len(things) - 1)])
