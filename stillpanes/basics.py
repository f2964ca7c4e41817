"""What the other files share: numbers, tuples, places."""

from stillpanes.errors import NoPlace


def is_number(thing):
    """Whether thing is an integer that is no bool."""
    return isinstance(thing, int) and not isinstance(thing, bool)


def is_number_from(thing, least):
    """Whether thing is a number, not below least."""
    return is_number(thing) and thing >= least


def are_numbers(thing):
    """Whether thing is a tuple of numbers from 0."""
    return isinstance(thing, tuple) and all([is_number_from(own, 0) for own in thing])


def is_tuple_of(thing, many):
    """Whether thing is a tuple with so many members."""
    return isinstance(thing, tuple) and len(thing) == many


def ascends(members):
    """Whether each member is below the next one."""
    return all([low < high for low, high in zip(members, members[1:])])


def tupled(told):
    """What is told, with tuples in the place of lists at any depth."""
    if isinstance(told, (list, tuple)):
        return tuple([tupled(own) for own in told])
    return told


def check_place(place, many):
    """NoPlace(place) unless it is one of the numbers from 0 below many."""
    if not 0 <= place < many:
        raise NoPlace(place)
