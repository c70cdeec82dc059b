"""Checks of plain values that several files of the package need."""

from yesifs.errors import BadTransaction


def is_number(thing):
    """Whether thing is an integer, which True and False are not."""
    return isinstance(thing, int) and not isinstance(thing, bool)


def is_name(thing):
    """Whether thing is a string of 1 to 10 letters from a to z."""
    if not isinstance(thing, str) or not 1 <= len(thing) <= 10:
        return False
    return all(["a" <= letter <= "z" for letter in thing])


def is_ascending(items):
    """Whether each of the items, which can be compared, is greater than the one before it."""
    return all([one < other for one, other in zip(items, items[1:])])


def is_transaction(thing):
    """Whether thing is an integer of 0 or more."""
    return is_number(thing) and thing >= 0


def are_transactions(thing):
    """Whether thing is a tuple of transactions, in any order."""
    return isinstance(thing, tuple) and all([is_transaction(part) for part in thing])


def check_transaction(thing):
    """Raise BadTransaction for what is not a transaction."""
    if not is_transaction(thing):
        raise BadTransaction(thing)
