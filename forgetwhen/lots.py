"""Lots of numbers, and which lie within which."""


def all_lots(many):
    """All lots of numbers below many, ascending."""
    lots = [()]
    for number in range(many):
        lots = lots + [(*lot, number) for lot in lots]
    return tuple(sorted(lots))


def is_within_lot(lot, other):
    """Whether a lot lies within another one."""
    return lot != other and all(one in other for one in lot)


def greatest_lots(lots):
    """Those that lie within no other one."""
    return tuple(lot for lot in lots if not any(is_within_lot(lot, other) for other in lots))


def least_lots(lots):
    """Those within which no other one lies."""
    return tuple(lot for lot in lots if not any(is_within_lot(other, lot) for other in lots))
