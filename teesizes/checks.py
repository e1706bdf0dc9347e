"""Checks of arguments. Each one accepts any value."""

from teesizes.errors import InvalidNames, InvalidNumber, InvalidReaders, InvalidState

MOST_ITEMS = 400
MOST_READERS = 200
MOST_POSITION = 10 ** 33
MOST_LETTERS = 8
LETTERS_OF_NAMES = "abcdefghijklmnopqrstuvwxyz"


def is_integer_between(value, least, greatest):
    """Return whether a value is an integer, and neither too small nor too great."""
    # A bool is an int for Python, but no integer for this package.
    return isinstance(value, int) and not isinstance(value, bool) and least <= value <= greatest


def is_list_up_to(value, most):
    """Return whether a value is a list or a tuple with at most so many items."""
    return isinstance(value, (list, tuple)) and len(value) <= most


def is_pair(value):
    """Return whether a value is a list or a tuple with two items."""
    return isinstance(value, (list, tuple)) and len(value) == 2


def are_integers_between(value, most, least, greatest):
    """Return whether a value is a list of at most so many integers of a range."""
    return is_list_up_to(value, most) and all([is_integer_between(item, least, greatest) for item in value])


def is_state(value):
    """Return whether a value is a state of any number of readers."""
    if not are_integers_between(value, MOST_READERS, 0, MOST_POSITION):
        return False
    return len(value) >= 1 and all([entry >= later for entry, later in zip(value, value[1:])])


def is_name(value):
    """Return whether a value is a name."""
    if not isinstance(value, str) or not 1 <= len(value) <= MOST_LETTERS:
        return False
    return all([letter in LETTERS_OF_NAMES for letter in value])


def are_names(value):
    """Return whether a value is a list of different names, at least one of them and not too many."""
    if not is_list_up_to(value, MOST_READERS) or not all([is_name(item) for item in value]):
        return False
    return len(value) >= 1 and len(set(value)) == len(value)


def require_readers(readers, most):
    """Raise InvalidReaders unless there are from 1 to so many readers."""
    if not is_integer_between(readers, 1, most):
        raise InvalidReaders("the number of readers is not an integer in its range")


def require_number(number, most):
    """Raise InvalidNumber unless the value is an integer from 0 to the greatest one."""
    if not is_integer_between(number, 0, most):
        raise InvalidNumber("the number is not an integer in its range")


def require_state(state):
    """Raise InvalidState unless the value is a state."""
    if not is_state(state):
        raise InvalidState("a state is a descending list of positions")


def require_names(names):
    """Raise InvalidNames unless the value is a list of different names."""
    if not are_names(names):
        raise InvalidNames("names are a list of different words of a few lower-case letters")
