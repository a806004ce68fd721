"""Copies of what objects are made of, so that lists changed later change nothing in them."""


def copied(value):
    # A list may lie within a tuple, as a dealing does within parts.
    if isinstance(value, list):
        return [copied(one) for one in value]
    if isinstance(value, tuple):
        return tuple([copied(one) for one in value])
    return value
