"""Conflict tables: which kinds of operations do not commute."""

from yesifs.checks import is_ascending, is_name
from yesifs.errors import BadKind, BadTable


def are_kinds(thing):
    """Whether thing is an ascending tuple of kinds."""
    if not isinstance(thing, tuple) or not all([is_name(part) for part in thing]):
        return False
    return is_ascending(thing)


def is_conflict(kinds, thing):
    """Whether thing is a pair of these kinds, the first one not greater than the second one."""
    if not isinstance(thing, tuple) or len(thing) != 2:
        return False
    one, other = thing
    return one in kinds and other in kinds and one <= other


def are_conflicts(kinds, thing):
    """Whether thing is an ascending tuple of such pairs."""
    if not isinstance(thing, tuple) or not all([is_conflict(kinds, part) for part in thing]):
        return False
    return is_ascending(thing)


def is_table(thing):
    """Whether thing is a table, a pair (kinds, conflicts)."""
    if not isinstance(thing, tuple) or len(thing) != 2:
        return False
    kinds, conflicts = thing
    return are_kinds(kinds) and are_conflicts(kinds, conflicts)


def check_table(thing):
    """Raise BadTable for what is not a table."""
    if not is_table(thing):
        raise BadTable(thing)


def check_kind(table, thing):
    """Raise BadKind for what is not a kind of the table."""
    if thing not in table[0]:
        raise BadKind(thing)


def does_conflict(table, one, other):
    """Whether two kinds of the table conflict, in whatever order they are given."""
    check_table(table)
    check_kind(table, one)
    check_kind(table, other)
    return (min(one, other), max(one, other)) in table[1]


def is_coarser(table, other):
    """Whether both have the same kinds, and the table all conflicts of the other one."""
    check_table(table)
    check_table(other)
    return table[0] == other[0] and len(set(other[1]) - set(table[1])) == 0
