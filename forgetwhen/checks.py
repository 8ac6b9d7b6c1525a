"""What is an integer, a number, a row: asked of any value."""


def is_integer(value):
    """True and False are integers for Python, but not here."""
    return isinstance(value, int) and not isinstance(value, bool)


def is_within(value, least, most):
    return is_integer(value) and least <= value <= most


def is_below(value, limit):
    """Whether it is a number below the limit."""
    return is_integer(value) and 0 <= value < limit


def is_row(value):
    return isinstance(value, (list, tuple))


def is_row_of(value, many):
    return is_row(value) and len(value) == many


def is_row_within(value, least, most):
    return is_row(value) and least <= len(value) <= most


def is_tuple_of(value, many):
    """For papers, in which no list may stand."""
    return isinstance(value, tuple) and len(value) == many


def all_below(values, limit):
    return all(is_below(value, limit) for value in values)


def first_not_below(values, limit):
    """The place of the first that is no number below the limit, or None."""
    for at, value in enumerate(values):
        if not is_below(value, limit):
            return at
    return None


def is_lot_below(values, limit):
    """Whether they are ascending, unlike numbers below the limit."""
    last = -1
    for value in values:
        if not (is_below(value, limit) and value > last):
            return False
        last = value
    return True
