"""Whole numbers, told of anything."""


def is_whole(thing):
    """Whether this is an int that is no truth."""
    return isinstance(thing, int) and not isinstance(thing, bool)


def is_within(thing, least, most):
    """Whether this is a whole number within these bounds."""
    return is_whole(thing) and least <= thing <= most


def are_within(thing, least, most):
    """Whether this is a tuple of whole numbers within these bounds."""
    return isinstance(thing, tuple) and all([is_within(number, least, most) for number in thing])


def is_rising(numbers):
    """Whether each of these numbers is greater than the one ahead."""
    return all([ahead < behind for ahead, behind in zip(numbers, numbers[1:])])
