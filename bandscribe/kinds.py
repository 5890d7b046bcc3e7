"""What kind a thing is that was handed in."""


def is_whole(thing):
    return isinstance(thing, int) and not isinstance(thing, bool)
