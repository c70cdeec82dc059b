"""Parts of the facts: facts that are put together, and reasons for what follows."""

from yesifs.checks import check_transaction
from yesifs.errors import Clash, IsOpen
from yesifs.facts import are_facts, check_facts, fate_among, fates_of


def merged(one, other):
    """The facts that contain all facts of both."""
    check_facts(one)
    check_facts(other)
    both = {fact[1]: fact for fact in one}
    for fact in other:
        if both.get(fact[1], fact) != fact:
            raise Clash(fact[1])
        both[fact[1]] = fact
    return tuple([both[t] for t in sorted(both)])


def are_same_fates(one, other):
    """Whether each transaction has the same fate by both."""
    check_facts(one)
    check_facts(other)
    mine, theirs = fates_of(one), fates_of(other)
    named = list(mine) + list(theirs)
    return all([mine.get(t, "open") == theirs.get(t, "open") for t in named])


def check_decided(facts, t):
    """Raise the error for what is not facts, is not a transaction, or is open by the facts."""
    check_facts(facts)
    check_transaction(t)
    if fate_among(facts, t) == "open":
        raise IsOpen(t)


def without(facts, fact):
    """The facts but this one."""
    return tuple([other for other in facts if other != fact])


def reason(facts, t):
    """Some of the facts by which t has the same fate, while it is open if one of them is left out."""
    check_decided(facts, t)
    word = fate_among(facts, t)
    left = facts
    # What follows from some facts follows from more of them, so what had to stay once must stay for good.
    for fact in facts:
        fewer = without(left, fact)
        if fate_among(fewer, t) == word:
            left = fewer
    return left


def is_reason(facts, t, thing):
    """Whether thing is a reason for the fate of t."""
    check_decided(facts, t)
    if not are_facts(thing) or not all([fact in facts for fact in thing]):
        return False
    # By some of the facts t has its fate already, or it is open; it never has the other fate.
    if fate_among(thing, t) == "open":
        return False
    return all([fate_among(without(thing, fact), t) == "open" for fact in thing])
