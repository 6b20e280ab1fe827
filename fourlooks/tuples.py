"""Lists in the place of tuples."""


def tupled(value, deep):
    """The value with tuples in the place of lists, so many levels deep."""
    if deep == 0 or not isinstance(value, (list, tuple)):
        return value
    return tuple([tupled(part, deep - 1) for part in value])
