"""Views of a store: its run over all sites, and a serial order of what it keeps."""

from yesifs.errors import BadStore
from yesifs.logs import event_of, table_for
from yesifs.runs import course_of, heard_facts, helpers_of, is_order, judge_course, kept_in
from yesifs.stores import Store


def check_store(thing):
    """Raise BadStore for what is not a Store."""
    if not isinstance(thing, Store):
        raise BadStore(thing)


def table_in(store):
    """The key table of all keys in the logs of the store."""
    return table_for(sorted(set([key for site in store.sites for key in site.book.amounts])))


def store_table(store):
    """The store table of the store."""
    check_store(store)
    return table_in(store)


def is_waiting(lines, event):
    """Whether the event is a firm fact of a transaction with a vote "yes" that is still in one of the lines."""
    if event[0] != "hear" or event[1][0] != "firm":
        return False
    return any([other[:2] == ("yes", event[1][1]) for line in lines for other in line])


def next_site(lines):
    """The least site whose next event, the first one in its line, does not wait; None if there is none."""
    for s, line in enumerate(lines):
        if line and not is_waiting(lines, line[0]):
            return s
    return None


def run_in(store):
    """The run of the store."""
    lines = [[event_of(row) for row in site.book.rows] for site in store.sites]
    run = []
    s = next_site(lines)
    while s is not None:
        run.append((s, lines[s].pop(0)))
        s = next_site(lines)
    return tuple(run)


def store_run(store):
    """The run of the store."""
    check_store(store)
    return run_in(store)


def course_in(store):
    """The course of the run of the store."""
    check_store(store)
    return course_of(table_in(store), run_in(store))


def serial_order(store):
    """An order that fits all sites, of the transactions that are kept if those without a fact are dropped."""
    course = course_in(store)
    return judge_course(course, helpers_of(course), kept_in(heard_facts(course)))[1]


def order_holds(store, thing):
    """Whether thing is such an order."""
    course = course_in(store)
    return is_order(course, kept_in(heard_facts(course)), thing)
