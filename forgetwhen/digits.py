"""Rows of digits, each with a base of its own, told by numbers in ascending order."""


def row_count(bases):
    count = 1
    for base in bases:
        count *= base
    return count


def nth_row(bases, number):
    """The digits of a number, the last one the least."""
    digits = []
    for base in reversed(bases):
        number, digit = divmod(number, base)
        digits.append(digit)
    return tuple(reversed(digits))


def row_number(bases, digits):
    number = 0
    for base, digit in zip(bases, digits):
        number = number * base + digit
    return number
