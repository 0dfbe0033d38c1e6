"""Plain values: numbers, NAMEs, and tuples in the place of lists."""

LONGEST_NAME = 8


def is_number(thing):
    """Whether thing is an integer other than True and False."""
    return isinstance(thing, int) and not isinstance(thing, bool)


def is_name(thing):
    """Whether thing is a NAME: 1 to 8 letters a to z."""
    if not isinstance(thing, str) or not 1 <= len(thing) <= LONGEST_NAME:
        return False
    return all(["a" <= sign <= "z" for sign in thing])


def is_table(thing, width):
    """Whether thing is a tuple of tuples this long that ascend by unlike NAMEs in front."""
    if not isinstance(thing, tuple):
        return False
    if not all([isinstance(row, tuple) and len(row) == width and is_name(row[0]) for row in thing]):
        return False
    return all([thing[at - 1][0] < thing[at][0] for at in range(1, len(thing))])


def tupled(worth):
    """The same value with a tuple in the place of each list, at any depth."""
    if isinstance(worth, (list, tuple)):
        return tuple([tupled(part) for part in worth])
    return worth


def is_just(thing, worth):
    """Whether thing is this value of numbers, strings and tuples, with the same kind of value in each place."""
    if isinstance(worth, tuple):
        return isinstance(thing, tuple) and len(thing) == len(worth) and all([
            is_just(part, other) for part, other in zip(thing, worth)
        ])
    if isinstance(worth, str):
        return isinstance(thing, str) and thing == worth
    return is_number(thing) and thing == worth
