"""Copies of what is handed in or told."""


def copied(value):
    """The same, with lists of its own, inner ones too: whoever has the other's may change them."""
    if isinstance(value, list):
        return [copied(item) for item in value]
    if isinstance(value, tuple):
        return tuple([copied(item) for item in value])
    return value
