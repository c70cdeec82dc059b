"""Sites and the messages between them: what a site does with each message, and at a fall and a restart."""

from yesifs.checks import check_transaction, is_ascending, is_number, is_transaction
from yesifs.desks import leader_among, receive, restart, site_with, state_at, target_of
from yesifs.errors import BadMany, BadMessage, BadRows, BadSite, BadState
from yesifs.facts import are_conditions, is_fact
from yesifs.logs import book_of


def check_many(many):
    """Raise BadMany for what is not a number of sites."""
    if not is_number(many) or not 1 <= many <= 4:
        raise BadMany(many)


def is_among(many, thing):
    """Whether thing is the number of one of so many sites."""
    return is_number(thing) and 0 <= thing < many


def check_here(many, here):
    """Raise the error for what is not a number of sites, or not the number of one of them."""
    check_many(many)
    if not is_among(many, here):
        raise BadSite(here)


def are_pairs(thing):
    """Whether thing is a tuple of pairs, ascending by their first items, which are numbers."""
    if not isinstance(thing, tuple) or not all([isinstance(part, tuple) and len(part) == 2 for part in thing]):
        return False
    firsts = [first for first, _ in thing]
    return all([is_number(first) for first in firsts]) and is_ascending(firsts)


def are_counts(many, thing):
    """Whether thing has the number of the steps, from 1 on, of some of so many sites."""
    return are_pairs(thing) and all([is_among(many, s) and is_number(count) and count >= 1 for s, count in thing])


def are_votes(t, counts, thing):
    """Whether thing has the conditions of some of the sites that are counted."""
    places = [s for s, _ in counts]
    return are_pairs(thing) and all([s in places and are_conditions(t, conditions) for s, conditions in thing])


def is_entry(many, here, heard, thing):
    """Whether thing is an entry of a transaction that is led here and of which no fact was heard."""
    if not isinstance(thing, tuple) or len(thing) != 4:
        return False
    t, counts, votes, is_asked = thing
    if not is_transaction(t) or leader_among(many, t) != here or t in heard:
        return False
    if not isinstance(is_asked, bool) or not are_counts(many, counts) or not are_votes(t, counts, votes):
        return False
    return is_asked or votes == ()


def is_desk(many, here, heard, thing):
    """Whether thing is an ascending tuple of such entries."""
    if not isinstance(thing, tuple) or not all([is_entry(many, here, heard, part) for part in thing]):
        return False
    return is_ascending([entry[0] for entry in thing])


def is_state_at(many, here, thing):
    """Whether thing is a state of this site."""
    if not isinstance(thing, tuple) or len(thing) != 3:
        return False
    log, forced, desk = thing
    book = book_of(log)
    if book is None or not is_number(forced) or not 0 <= forced <= len(log):
        return False
    return is_desk(many, here, book.moment.heard, desk)


def is_state(many, here, thing):
    """Whether thing is a state of the site with the number here."""
    check_here(many, here)
    return is_state_at(many, here, thing)


def check_state(many, here, state):
    """Raise the error for what is not a number of sites, the number of one of them, or a state of it."""
    check_here(many, here)
    if not is_state_at(many, here, state):
        raise BadState(state)


def new_state(many, here):
    """The state of a new site."""
    check_here(many, here)
    return ((), 0, ())


def is_sendable(many, thing):
    """Whether thing is a message among so many sites."""
    if not isinstance(thing, tuple) or not 2 <= len(thing) <= 4:
        return False
    if thing[0] == "tell":
        return len(thing) == 3 and is_fact(thing[1]) and is_among(many, thing[2])
    if not is_transaction(thing[1]):
        return False
    if len(thing) < 4:
        return thing[0] == "what" and len(thing) == 2
    word, t, s, last = thing
    if not is_among(many, s):
        return False
    if word == "vote":
        return last is None or are_conditions(t, last)
    return word == "ask" and is_number(last) and last >= 1


def is_message(many, thing):
    """Whether thing is a message."""
    check_many(many)
    return is_sendable(many, thing)


def goes_to(many, message):
    """The number of the site for which the message is."""
    check_many(many)
    if not is_sendable(many, message):
        raise BadMessage(message)
    return target_of(many, message)


def leader_of(many, t):
    """The number of the leader of t."""
    check_many(many)
    check_transaction(t)
    return leader_among(many, t)


def received(many, here, state, message):
    """The state after a message for this site, and the ascending tuple of the messages that the site sends."""
    check_state(many, here, state)
    if not is_sendable(many, message) or target_of(many, message) != here:
        raise BadMessage(message)
    site = site_with(many, here, state)
    sent = receive(site, message)
    return (state_at(site), tuple(sorted(sent)))


def fallen(many, here, state, rows):
    """The state after a fall that leaves so many rows."""
    check_state(many, here, state)
    log, forced, _ = state
    if not is_number(rows) or not forced <= rows <= len(log):
        raise BadRows(rows)
    return (log[:rows], forced, ())


def restarted(many, here, state):
    """The state after restarting."""
    check_state(many, here, state)
    site = site_with(many, here, state)
    restart(site)
    return state_at(site)
