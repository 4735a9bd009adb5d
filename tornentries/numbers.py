"""Whole numbers, written to the base 256 in one of the two orders."""


def written(order, number, many):
    """The number in so many numbers."""
    parts = []
    for _ in range(many):
        parts.append(number % 256)
        number //= 256
    if order == "great":
        parts.reverse()
    return tuple(parts)


def number_in(order, numbers):
    """The whole number that these numbers write."""
    greatest_first = numbers if order == "great" else numbers[::-1]
    total = 0
    for part in greatest_first:
        total = total * 256 + part
    return total
