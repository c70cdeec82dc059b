"""The history of a site: which events are possible, what is known and lost, words and outcomes."""

from yesifs.checks import are_transactions, check_transaction
from yesifs.errors import BadOutcome
from yesifs.facts import closed, firm_by
from yesifs.moments import (checked_moment, concerned_at, full_at, is_active, is_possible, kept_at, lost_at,
                            moment_after)
from yesifs.tables import check_table
from yesifs.words import settled_word


def is_history(table, thing):
    """Whether thing is a history."""
    check_table(table)
    return moment_after(table, thing) is not None


def is_event(table, history, thing):
    """Whether thing is an event that is possible after the history."""
    return is_possible(checked_moment(table, history), thing)


def state_of(table, history, t):
    """What the site knows of t: "kept", "lost", "voted", "active" or "new"."""
    moment = checked_moment(table, history)
    check_transaction(t)
    if t in kept_at(moment):
        return "kept"
    if t in lost_at(moment):
        return "lost"
    if t in moment.yes:
        return "voted"
    return "active" if t in moment.steps_of else "new"


def present_among(moment, found):
    """The ascending tuple of those of the found transactions that have a step or a vote here."""
    return tuple([t for t in sorted(found) if t in moment.steps_of or t in moment.no])


def known_kept(table, history):
    """The ascending tuple of the transactions with a step or a vote here that are known kept."""
    moment = checked_moment(table, history)
    return present_among(moment, kept_at(moment))


def lost(table, history):
    """The ascending tuple of the transactions with a step or a vote here that are lost."""
    moment = checked_moment(table, history)
    return present_among(moment, lost_at(moment))


def word_of(table, history):
    """The word of the history."""
    return tuple(checked_moment(table, history).word)


def facts_for(moment, t):
    """The list of the facts that a completion can have for t."""
    if t in moment.heard:
        return [moment.heard[t]]
    if t in moment.yes:
        return [("dropped", t), ("firm", t, moment.yes[t])]
    if is_active(moment, t):
        return [("dropped", t), ("firm", t, full_at(moment, t))]
    if t not in moment.steps_of and t not in moment.no:
        return [("dropped", t), ("firm", t, ())]
    return [("dropped", t)]


def all_choices(choices):
    """The list of all tuples with one item of each list of the choices, in order."""
    found = [()]
    for some in choices:
        found = [begun + (item,) for begun in found for item in some]
    return found


def outcomes_at(moment):
    """The ascending list of the outcomes."""
    choices = [facts_for(moment, t) for t in concerned_at(moment)]
    kept_sets = [closed(firm_by(facts), []) for facts in all_choices(choices)]
    return sorted(set([tuple([t for t in sorted(kept) if t in moment.steps_of]) for kept in kept_sets]))


def outcomes(table, history):
    """The ascending tuple of the outcomes of the history."""
    return tuple(outcomes_at(checked_moment(table, history)))


def check_outcome(moment, thing):
    """Raise BadOutcome for what is not an outcome."""
    if not are_transactions(thing) or thing not in outcomes_at(moment):
        raise BadOutcome(thing)


def settled(table, history, outcome):
    """The word settled for the outcome."""
    moment = checked_moment(table, history)
    check_outcome(moment, outcome)
    return settled_word(moment, outcome)
