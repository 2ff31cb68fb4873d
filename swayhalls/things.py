"""What kind a thing is that was handed in."""


def is_number(thing):
    """Whether it's a whole number."""
    # Python counts True and False among its whole numbers; the document doesn't.
    return isinstance(thing, int) and not isinstance(thing, bool)


def are_numbers(thing):
    """Whether it's a list or a tuple of numbers, maybe bare."""
    return isinstance(thing, (list, tuple)) and all([is_number(one) for one in thing])


def are_rows(thing):
    """Whether it's a list or a tuple of lists or tuples of numbers, maybe bare."""
    return isinstance(thing, (list, tuple)) and all([are_numbers(row) for row in thing])


def does_rise(numbers):
    """Whether each is greater than the one ahead of it."""
    return all([low < high for low, high in zip(numbers, numbers[1:])])


def is_pair(thing):
    """Whether it's a tuple of two numbers."""
    return isinstance(thing, tuple) and len(thing) == 2 and are_numbers(thing)
