"""What counts as a whole number, for all that looks at whatever thing."""


def is_whole(thing):
    # Python counts True and False among its ints; the document doesn't.
    return isinstance(thing, int) and not isinstance(thing, bool)


def is_whole_within(thing, lowest, highest):
    return is_whole(thing) and lowest <= thing <= highest
