"""The log of a site: operations, rows, and the rows that follow when transactions are refused."""

from yesifs.checks import are_transactions, is_ascending, is_name, is_number, is_transaction
from yesifs.errors import BadKeys, BadLog, BadOperation, BadStep, BadTransaction, BadTransactions
from yesifs.moments import (Moment, check_active, full_at, happen, is_active, is_free, is_possible, later_rivals,
                            left_steps, lost_if, supporters)


class Book:
    """A log with what it leads to: its rows, the moment after its history, and the value of each key in it."""

    def __init__(self):
        self.rows = []
        self.moment = Moment(((), ()))
        self.amounts = {}


def is_key(thing):
    """Whether thing is a string of 1 to 9 letters from a to z."""
    return is_name(thing) and len(thing) <= 9


def is_operation(thing):
    """Whether thing is an operation."""
    if not isinstance(thing, tuple) or len(thing) not in (2, 3) or not is_key(thing[1]):
        return False
    if len(thing) == 2:
        return thing[0] == "get"
    return thing[0] in ("set", "add") and is_number(thing[2])


def check_operation(thing):
    """Raise BadOperation for what is not an operation."""
    if not is_operation(thing):
        raise BadOperation(thing)


def kind_for(operation):
    """The kind of an operation that is known to be one."""
    return operation[0][:1] + operation[1]


def kind_of(operation):
    """The kind of the operation: g, s or a, and the key."""
    check_operation(operation)
    return kind_for(operation)


def kinds_on(key):
    """The ascending list of the kinds of operations on a key."""
    return ["a" + key, "g" + key, "s" + key]


def conflicts_on(key):
    """The ascending list of the conflicts of the kinds of operations on a key."""
    adding, getting, setting = kinds_on(key)
    return [(adding, getting), (adding, setting), (getting, setting), (setting, setting)]


def table_for(keys):
    """The key table of some keys, in any order, none of them twice."""
    kinds = sorted([kind for key in keys for kind in kinds_on(key)])
    conflicts = sorted([pair for key in keys for pair in conflicts_on(key)])
    return (tuple(kinds), tuple(conflicts))


def are_keys(thing):
    """Whether thing is an ascending tuple of keys."""
    return isinstance(thing, tuple) and all([is_key(part) for part in thing]) and is_ascending(thing)


def key_table(keys):
    """The table of the kinds of operations on the keys, and of their conflicts."""
    if not are_keys(keys):
        raise BadKeys(keys)
    return table_for(keys)


def event_of(row):
    """The event of a row."""
    return ("do", row[1], kind_for(row[2])) if row[0] == "do" else row


def may_do(book, thing):
    """Whether thing, a tuple of four items, is a "do" row that can come next."""
    word, t, operation, before = thing
    if word != "do" or not is_transaction(t) or not is_free(book.moment, t) or not is_operation(operation):
        return False
    return is_number(before) and before == book.amounts.get(operation[1], 0)


def may_follow(book, thing):
    """Whether thing is a row that can come next."""
    if not isinstance(thing, tuple) or not 2 <= len(thing) <= 4:
        return False
    if len(thing) == 4:
        return may_do(book, thing)
    # The moment of a book knows no kinds, so that an event "do" is never possible.
    if not is_possible(book.moment, thing):
        return False
    if thing[0] == "yes":
        return thing[2] == full_at(book.moment, thing[1])
    if thing[0] == "no":
        return is_active(book.moment, thing[1])
    return thing[0] == "hear" or not later_rivals(book.moment, thing[2])


def perform(book, operation):
    """Change the value of the key as the operation does."""
    key = operation[1]
    amount = book.amounts.get(key, 0)
    if operation[0] == "set":
        amount = operation[2]
    elif operation[0] == "add":
        amount += operation[2]
    book.amounts[key] = amount
    for pair in conflicts_on(key):
        book.moment.conflicts[pair] = True


def compensate(book, row):
    """Change the value of the key as the compensation of the step in a "do" row does."""
    operation, before = row[2], row[3]
    if operation[0] == "set":
        book.amounts[operation[1]] = before
    elif operation[0] == "add":
        book.amounts[operation[1]] -= operation[2]


def write(book, row):
    """Write a row that can come next."""
    if row[0] == "do":
        perform(book, row[2])
    elif row[0] == "back":
        compensate(book, book.rows[row[2]])
    happen(book.moment, event_of(row))
    book.rows.append(row)


def book_after(rows):
    """The book of rows that are known to be a log."""
    book = Book()
    for row in rows:
        write(book, row)
    return book


def book_of(thing):
    """The book of a log, or None for any value that is not a log."""
    if not isinstance(thing, tuple):
        return None
    book = Book()
    for row in thing:
        if not may_follow(book, row):
            return None
        write(book, row)
    return book


def checked_book(log):
    """The book of a log; raises the error for what is not a log."""
    book = book_of(log)
    if book is None:
        raise BadLog(log)
    return book


def is_log(thing):
    """Whether thing is a log."""
    return book_of(thing) is not None


def history_of(log):
    """The history of the log."""
    return tuple([event_of(row) for row in checked_book(log).rows])


def table_of(log):
    """The key table of the keys in the log."""
    return table_for(list(checked_book(log).amounts))


def values(log):
    """The ascending tuple of the pairs (key, value) whose value is not 0."""
    amounts = checked_book(log).amounts
    return tuple(sorted([(key, amount) for key, amount in amounts.items() if amount != 0]))


def next_do_row(book, t, operation):
    """The "do" row for an operation that t can perform."""
    return ("do", t, operation, book.amounts.get(operation[1], 0))


def do_row(log, t, operation):
    """The row with which t performs the operation."""
    book = checked_book(log)
    if not is_transaction(t) or not is_free(book.moment, t):
        raise BadTransaction(t)
    check_operation(operation)
    return next_do_row(book, t, operation)


def next_yes_row(book, t):
    """The "yes" row for an active t."""
    return ("yes", t, full_at(book.moment, t))


def yes_row(log, t):
    """The row with which the site votes for t."""
    book = checked_book(log)
    check_active(book.moment, t)
    return next_yes_row(book, t)


def active_in(book):
    """The ascending list of the active transactions."""
    return sorted([t for t in book.moment.steps_of if is_active(book.moment, t)])


def drawn_along(book, some):
    """The ascending list of the active transactions that are refused if some are."""
    active = active_in(book)
    helpers = {t: supporters(book.moment, t) for t in active}
    refused = {t: True for t in some}
    is_growing = True
    while is_growing:
        gone = lost_if(book.moment, refused)
        more = [t for t in active if t not in refused and any([u in gone for u in helpers[t]])]
        refused.update({t: True for t in more})
        is_growing = len(more) > 0
    return sorted(refused)


def refusal(book, some):
    """The list of the rows of refusing some active transactions."""
    refused = drawn_along(book, some)
    gone = lost_if(book.moment, refused)
    owners = {i: book.moment.steps[i][0] for i in left_steps(book.moment)}
    return [("no", t) for t in refused] + [("back", t, i) for i, t in owners.items() if t in gone]


def restarting(book):
    """The list of the rows of refusing all active transactions."""
    return refusal(book, active_in(book))


def refuse_rows(log, some):
    """The tuple of the rows of refusing some active transactions."""
    book = checked_book(log)
    if not are_transactions(some) or not is_ascending(some) or not all([is_active(book.moment, t) for t in some]):
        raise BadTransactions(some)
    return tuple(refusal(book, some))


def settle_rows(log):
    """The tuple of the rows of refusing none."""
    return tuple(refusal(checked_book(log), []))


def restart_rows(log):
    """The tuple of the rows of refusing all active transactions."""
    return tuple(restarting(checked_book(log)))


def answer_of(log, i):
    """The value that the "get" step at the position i read."""
    book = checked_book(log)
    if not is_number(i) or i not in book.moment.steps or book.rows[i][2][0] != "get":
        raise BadStep(i)
    return book.rows[i][3]
