"""Items: a byte is an integer, and a mark stands for bytes that were lost at its place."""


def lost_mark(many):
    """Return the mark for a number of lost bytes."""
    return ("lost", many)


def is_mark(item):
    """Return True if an item is a mark and False if it is a byte."""
    return isinstance(item, tuple)


def lost_by(mark):
    """Return the number of lost bytes for which a mark stands."""
    return mark[1]


def joined(mark, other):
    """Return the one mark that two adjacent marks become."""
    return lost_mark(lost_by(mark) + lost_by(other))


def with_mark(data, lost):
    """Return the list of some bytes and of the mark behind them, if any bytes were lost there."""
    if lost == 0:
        return list(data)
    return data + [lost_mark(lost)]


def bytes_among(items):
    """Return how many of the items are bytes."""
    return len([item for item in items if not is_mark(item)])
