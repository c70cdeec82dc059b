"""What a site does: it refuses transactions, decides facts, and receives messages."""

from yesifs.logs import Book, book_after, next_yes_row, refusal, restarting, write
from yesifs.moments import is_active, may_hear


class Site:
    """The site with the number here among many sites.

    book is its log; forced is how many of its first rows survive a fall; desk has the entry of each transaction
    that the site leads and has not decided.
    """

    def __init__(self, many, here):
        self.many = many
        self.here = here
        self.book = Book()
        self.forced = 0
        self.desk = {}


def site_with(many, here, state):
    """The site with this number and this state."""
    log, forced, desk = state
    site = Site(many, here)
    site.book = book_after(log)
    site.forced = forced
    site.desk = {entry[0]: entry for entry in desk}
    return site


def state_at(site):
    """The state of the site."""
    return (tuple(site.book.rows), site.forced, tuple([site.desk[t] for t in sorted(site.desk)]))


def leader_among(many, t):
    """The number of the leader of t."""
    return t % many


def target_of(many, message):
    """The number of the site for which the message is."""
    if message[0] in ("ask", "tell"):
        return message[2]
    return leader_among(many, message[1])


def tell_others(site, fact):
    """The list of the messages that tell the fact to all other sites."""
    return [("tell", fact, s) for s in range(site.many) if s != site.here]


def write_all(site, rows):
    """Write rows that can come next."""
    for row in rows:
        write(site.book, row)


def refuse(site, some):
    """Refuse some active transactions."""
    write_all(site, refusal(site.book, some))


def settle(site):
    """Refuse what cannot stay beside lost transactions, and take their steps back."""
    refuse(site, [])


def force(site):
    """Force all rows of the site."""
    site.forced = len(site.book.rows)


def restart(site):
    """Refuse all active transactions, and force all rows."""
    write_all(site, restarting(site.book))
    force(site)


def put_down(site, fact):
    """Write the row with which the fact is heard; its transaction needs no entry any more."""
    site.desk.pop(fact[1], None)
    write(site.book, ("hear", fact))


def decide(site, fact):
    """Decide a fact that can be heard here; the result is the list of the messages that are sent."""
    if fact[0] == "dropped" and is_active(site.book.moment, fact[1]):
        refuse(site, [fact[1]])
    put_down(site, fact)
    force(site)
    settle(site)
    return tell_others(site, fact)


def take_ask(site, message):
    """Vote for the transaction if that is possible, and send the vote."""
    t, count = message[1], message[3]
    moment = site.book.moment
    if t not in moment.yes and is_active(moment, t) and len(moment.steps_of[t]) == count:
        write(site.book, next_yes_row(site.book, t))
        force(site)
    return [("vote", t, site.here, moment.yes.get(t))]


def union_of(votes):
    """The ascending tuple of the conditions of all votes."""
    return tuple(sorted(set([u for _, conditions in votes for u in conditions])))


def count_vote(site, t, s, conditions):
    """Put a vote into the entry of t; if it is the last one, decide that t is firm."""
    _, counts, votes, is_asked = site.desk[t]
    if not is_asked or s not in [place for place, _ in counts] or s in [place for place, _ in votes]:
        return []
    votes = tuple(sorted(votes + ((s, conditions),)))
    site.desk[t] = (t, counts, votes, True)
    fact = ("firm", t, union_of(votes))
    if len(votes) < len(counts) or not may_hear(site.book.moment, fact):
        return []
    return decide(site, fact)


def take_vote(site, message):
    """Put the vote to the others, or tell or decide what became of the transaction."""
    _, t, s, conditions = message
    heard = site.book.moment.heard
    if t in heard:
        return [("tell", heard[t], s)]
    if t not in site.desk or conditions is None:
        return decide(site, ("dropped", t))
    return count_vote(site, t, s, conditions)


def take_tell(site, message):
    """Hear the fact if that is possible."""
    if may_hear(site.book.moment, message[1]):
        put_down(site, message[1])
        settle(site)
    return []


def take_what(site, message):
    """Tell what became of the transaction; if nobody knows of it any more, decide that it is dropped."""
    t = message[1]
    heard = site.book.moment.heard
    if t in heard:
        return tell_others(site, heard[t])
    return [] if t in site.desk else decide(site, ("dropped", t))


RECEIVERS = {"ask": take_ask, "vote": take_vote, "tell": take_tell, "what": take_what}


def receive(site, message):
    """Let the site receive a message for it; the result is the list of the messages that it sends."""
    take = RECEIVERS[message[0]]
    return take(site, message)
