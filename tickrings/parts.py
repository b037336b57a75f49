"""The kinds of the parts of events."""


def is_number(part):
    """Return True if a part is an integer; True and False are none."""
    return isinstance(part, int) and not isinstance(part, bool)


def is_index(part, many):
    """Return True if a part is one of the numbers from 0 to many - 1."""
    return is_number(part) and 0 <= part < many


def is_byte(part):
    """Return True if a part is a byte."""
    return is_index(part, 256)


def is_bytes_list(part):
    """Return True if a part is a list of bytes."""
    return isinstance(part, list) and all([is_byte(each) for each in part])


def _all_same(parts, wanted):
    return len(parts) == len(wanted) and all([is_same(part, wanted[at]) for at, part in enumerate(parts)])


def is_same(part, wanted):
    """Return True if a part is the wanted one, also in its kind and in the kinds of its own parts."""
    # By == alone, True would be 1, and so would a fraction that is whole.
    if isinstance(wanted, tuple):
        return isinstance(part, tuple) and _all_same(part, wanted)
    if isinstance(wanted, list):
        return isinstance(part, list) and _all_same(part, wanted)
    if isinstance(wanted, str):
        return isinstance(part, str) and part == wanted
    return is_number(part) and part == wanted
