"""Facts about transactions, and what follows from them."""

from yesifs.checks import are_transactions, check_transaction, is_ascending, is_transaction
from yesifs.errors import BadFacts


def are_conditions(t, thing):
    """Whether thing is an ascending tuple of transactions other than t."""
    return are_transactions(thing) and is_ascending(thing) and t not in thing


def is_fact(thing):
    """Whether thing is ("firm", t, conditions) or ("dropped", t)."""
    if not isinstance(thing, tuple) or len(thing) not in (2, 3) or not is_transaction(thing[1]):
        return False
    if len(thing) == 2:
        return thing[0] == "dropped"
    return thing[0] == "firm" and are_conditions(thing[1], thing[2])


def are_facts(thing):
    """Whether thing is a tuple of facts, ascending by their transactions, no transaction twice."""
    if not isinstance(thing, tuple) or not all([is_fact(part) for part in thing]):
        return False
    return is_ascending([fact[1] for fact in thing])


def check_facts(thing):
    """Raise BadFacts for what is not facts."""
    if not are_facts(thing):
        raise BadFacts(thing)


def owners_of(facts):
    """A dict of True for the transactions that have a fact."""
    return {fact[1]: True for fact in facts}


def firm_by(facts):
    """A dict of the conditions of each transaction with a fact "firm"."""
    return {fact[1]: fact[2] for fact in facts if fact[0] == "firm"}


def named_by(facts):
    """The ascending list of the transactions that have a fact or are a condition of one."""
    owners = [fact[1] for fact in facts]
    conditions = [u for fact in facts if fact[0] == "firm" for u in fact[2]]
    return sorted(set(owners + conditions))


def closed(firm, start):
    """The least set with start and each firm transaction all of whose conditions are in it.

    The result is a dict of True, in which each firm transaction comes after its conditions.
    """
    inside = {u: True for u in start}
    is_growing = True
    while is_growing:
        is_growing = False
        for u, conditions in firm.items():
            if u not in inside and all([condition in inside for condition in conditions]):
                inside[u] = True
                is_growing = True
    return inside


def fates_of(facts):
    """A dict of the fates of the transactions of named_by, ascending; the order of the facts does not matter."""
    firm = firm_by(facts)
    owners = owners_of(facts)
    named = named_by(facts)
    kept = closed(firm, [])
    # Whatever would not be kept even if all missing facts were firm without conditions
    # leads to a dropped fact or goes on without end, that is, into a ring: it is dropped.
    hopeful = closed(firm, [u for u in named if u not in owners])
    undecided = {u: "open" if u in hopeful else "dropped" for u in named}
    return {u: "kept" if u in kept else undecided[u] for u in named}


def fate_among(facts, t):
    """The fate of t by facts that are known to be facts."""
    return fates_of(facts).get(t, "open")


def fate(facts, t):
    """What follows for t: "kept", "dropped" or "open"."""
    check_facts(facts)
    check_transaction(t)
    return fate_among(facts, t)


def with_fate(facts, word):
    """The ascending tuple of the transactions of named_by that have this fate."""
    return tuple([u for u, found in fates_of(facts).items() if found == word])


def kept_by(facts):
    """The ascending tuple of the kept transactions."""
    check_facts(facts)
    return with_fate(facts, "kept")


def dropped_by(facts):
    """The ascending tuple of the dropped transactions."""
    check_facts(facts)
    return with_fate(facts, "dropped")


def open_by(facts):
    """The ascending tuple of the open transactions among those that have a fact or are a condition of one."""
    check_facts(facts)
    return with_fate(facts, "open")


def reached_from(conditions, start):
    """The ascending list of all to which the transactions of start lead by conditions, these included."""
    found = {u: True for u in start}
    waiting = list(start)
    while waiting:
        here = waiting.pop()
        for u in conditions.get(here, ()):
            if u not in found:
                found[u] = True
                waiting.append(u)
    return sorted(found)


def missing_for(facts, t):
    """The ascending tuple of the transactions without a fact to which an open t leads."""
    # What an open t leads to is open or kept, and what is kept leads only to what is kept,
    # so each way to a transaction without a fact goes through open transactions.
    owners = owners_of(facts)
    return tuple([u for u in reached_from(firm_by(facts), [t]) if u not in owners])


def needed(facts, t):
    """The ascending tuple of the transactions whose facts are missing for the fate of t."""
    check_facts(facts)
    check_transaction(t)
    if fate_among(facts, t) != "open":
        return ()
    return missing_for(facts, t)


def kept_order(facts, t):
    """A tuple of kept transactions that ends with t, each after its conditions."""
    order = list(closed(firm_by(facts), []))
    return tuple(order[:order.index(t) + 1])


def dropped_chain(facts, t):
    """A tuple from t through dropped conditions to a dropped fact, or to an item that it contains already."""
    firm = firm_by(facts)
    dropped = with_fate(facts, "dropped")
    chain = [t]
    while chain[-1] in firm and chain[-1] not in chain[:-1]:
        chain.append([u for u in firm[chain[-1]] if u in dropped][0])
    return tuple(chain)


def judge_fate(facts, t):
    """A certificate for what follows for t."""
    check_facts(facts)
    check_transaction(t)
    word = fate_among(facts, t)
    if word == "kept":
        return ("kept", kept_order(facts, t))
    if word == "dropped":
        return ("dropped", dropped_chain(facts, t))
    missing = missing_for(facts, t)
    return ("open", tuple([("firm", u, ()) for u in missing]), tuple([("dropped", u) for u in missing]))


def is_kept_order(facts, t, thing):
    """Whether thing is a tuple of different firm transactions that ends with t, each after its conditions."""
    if not are_transactions(thing) or thing[-1:] != (t,):
        return False
    firm = firm_by(facts)
    earlier = {}
    for u in thing:
        if u in earlier or u not in firm or not all([condition in earlier for condition in firm[u]]):
            return False
        earlier[u] = True
    return True


def is_dropped_chain(facts, t, thing):
    """Whether thing is a tuple that leads from t by conditions to a dropped fact, or to an earlier item."""
    if not are_transactions(thing) or thing[:1] != (t,):
        return False
    firm = firm_by(facts)
    for here, after in zip(thing, thing[1:]):
        if after not in firm.get(here, ()):
            return False
    return ("dropped", thing[-1]) in facts or thing[-1] in thing[:-1]


def do_facts_lead(facts, more, t, word):
    """Whether more is facts for transactions without a fact, with which t has the fate word."""
    owners = owners_of(facts)
    if not are_facts(more) or any([fact[1] in owners for fact in more]):
        return False
    return fate_among(facts + more, t) == word


def fate_holds(facts, t, thing):
    """Whether thing is a certificate for what follows for t."""
    check_facts(facts)
    check_transaction(t)
    if not isinstance(thing, tuple) or len(thing) not in (2, 3):
        return False
    if len(thing) == 3:
        return (thing[0] == "open" and do_facts_lead(facts, thing[1], t, "kept")
                and do_facts_lead(facts, thing[2], t, "dropped"))
    if thing[0] == "kept":
        return is_kept_order(facts, t, thing[1])
    return thing[0] == "dropped" and is_dropped_chain(facts, t, thing[1])
