"""What integers, numbers and names are, and tuples of numbers: what all other files rest on."""


def is_int(value):
    """Whether any value is an integer; True and False are none."""
    return isinstance(value, int) and not isinstance(value, bool)


def is_number(value):
    """Whether any value is an integer from 0 on."""
    return is_int(value) and value >= 0


def is_name(value):
    """Whether any value is a string of 1 to 8 lower-case letters."""
    if not isinstance(value, str) or not 1 <= len(value) <= 8:
        return False
    # A letter of another alphabet can be lower-case, too.
    return value.isascii() and value.isalpha() and value.islower()


def is_tuple_of(value, many):
    """Whether any value is a tuple of so many things."""
    return isinstance(value, tuple) and len(value) == many


def is_part_of(value, things):
    """Whether any value is a tuple of some of these unlike things, in their order, none twice."""
    return isinstance(value, tuple) and list(value) == [thing for thing in things if thing in value]


def tuples_over(sizes):
    """All tuples that have, at each place, a number below the size that stands there, ascending."""
    found = [()]
    for size in sizes:
        found = [ahead + (number,) for ahead in found for number in range(size)]
    return tuple(found)
