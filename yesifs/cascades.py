"""Cascades: what is lost with a transaction that is refused, and what it would have waited for instead."""

from yesifs.checks import are_transactions, is_ascending, is_transaction
from yesifs.errors import BadInterleaving, BadScript, BadTransaction
from yesifs.logs import Book, checked_book, drawn_along, is_operation, next_do_row, refusal, write
from yesifs.moments import check_active, kept_at, lost_at, lost_if


def open_in(moment):
    """The ascending list of the active and the voted transactions."""
    kept, gone = kept_at(moment), lost_at(moment)
    return [t for t in sorted(moment.steps_of) if t not in kept and t not in gone]


def cascade_in(book, t):
    """The cascade of an active t, and its cost."""
    gone = lost_if(book.moment, drawn_along(book, [t]))
    backs = [row for row in refusal(book, [t]) if row[0] == "back"]
    return (tuple([u for u in open_in(book.moment) if u in gone]), len(backs))


def cascade(log, t):
    """The pair of the cascade of an active t, as an ascending tuple, and its cost."""
    book = checked_book(log)
    check_active(book.moment, t)
    return cascade_in(book, t)


def is_program(thing):
    """Whether thing is a pair of a transaction and a tuple of at least one operation."""
    if not isinstance(thing, tuple) or len(thing) != 2 or not is_transaction(thing[0]):
        return False
    return isinstance(thing[1], tuple) and len(thing[1]) > 0 and all([is_operation(part) for part in thing[1]])


def is_script(thing):
    """Whether thing is a tuple of programs, ascending by their transactions."""
    if not isinstance(thing, tuple) or not all([is_program(part) for part in thing]):
        return False
    return is_ascending([program[0] for program in thing])


def check_script(thing):
    """Raise BadScript for what is not a script."""
    if not is_script(thing):
        raise BadScript(thing)


def turns_in(script):
    """The ascending list with each transaction as often as it has operations."""
    return [t for t, operations in script for _ in operations]


def check_interleaving(script, thing):
    """Raise BadInterleaving for what is not an interleaving of the script."""
    if not are_transactions(thing) or sorted(thing) != turns_in(script):
        raise BadInterleaving(thing)


def book_for(script, interleaving):
    """The book of the log that the interleaving gives."""
    book = Book()
    programs = dict(script)
    for t in interleaving:
        done = len(book.moment.steps_of.get(t, ()))
        write(book, next_do_row(book, t, programs[t][done]))
    return book


def checked_book_for(script, interleaving):
    """The book of the log; raises the error for what is not a script, or not an interleaving of it."""
    check_script(script)
    check_interleaving(script, interleaving)
    return book_for(script, interleaving)


def log_of(script, interleaving):
    """The log of "do" rows that the interleaving gives."""
    return tuple(checked_book_for(script, interleaving).rows)


def interleavings(script):
    """The list of all interleavings, as Python sorts them."""
    found = [()]
    for _ in turns_in(script):
        found = [begun + (t,) for begun in found for t, operations in script if begun.count(t) < len(operations)]
    return found


def greatest_cascade(script, t):
    """The greatest cascade of t, its cost, and the first interleaving with it."""
    check_script(script)
    if not is_transaction(t) or t not in dict(script):
        raise BadTransaction(t)
    best = ((), 0, ())
    for interleaving in interleavings(script):
        lost_ones, cost = cascade_in(book_for(script, interleaving), t)
        if cost > best[1]:
            best = (lost_ones, cost, interleaving)
    return best


def waits(script, interleaving):
    """The ascending tuple of the pairs of positions of conflicting steps of different transactions."""
    moment = checked_book_for(script, interleaving).moment
    pairs = [(i, j) for j in moment.steps for i in moment.rivals[j] if i < j]
    return tuple(sorted([(i, j) for i, j in pairs if moment.steps[i][0] != moment.steps[j][0]]))
