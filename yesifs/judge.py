"""Right histories: which votes are sufficient, which compensations nested, and certificates for it."""

from itertools import combinations

from yesifs.checks import is_number
from yesifs.facts import closed, reached_from
from yesifs.moments import (Moment, check_active, checked_moment, full_at, happen, heard_firm, kept_at, later_rivals,
                            leads_at, lost_at, may_vote, supporters)
from yesifs.sites import outcomes_at
from yesifs.words import is_cleared, serial_order, supports_at


def led_from(leads, outcome):
    """A dict of the list of the others in the outcome to which each transaction of it leads by conditions."""
    return {u: [t for t in reached_from(leads, [u]) if t in outcome and t != u] for u in outcome}


def with_helpers(led, helpers):
    """The dict of these lists, with the supporters among its keys put into each of them."""
    return {u: before + [t for t in helpers[u] if t in led] for u, before in led.items()}


def has_allowed_order(helpers, leads, outcome):
    """Whether some allowed order of the outcome has each transaction after its supporters."""
    return serial_order(with_helpers(led_from(leads, outcome), helpers)) is not None


def is_right_now(table, history):
    """Whether each outcome leaves what a serial order of its transactions leaves, in some allowed order."""
    moment = checked_moment(table, history)
    helpers, leads = supports_at(moment), leads_at(moment)
    return all([is_cleared(moment, outcome) and has_allowed_order(helpers, leads, outcome)
                for outcome in outcomes_at(moment)])


def is_hopeless(moment, needs, u, reach):
    """Whether u can never be kept if it needs the transactions of the reach."""
    if u in reach or any([t in reach for t in lost_at(moment)]):
        return True
    # What is not in the least set that is closed under having all its needs leads into a ring.
    return len(closed({t: needs.get(t, ()) for t in reach}, [])) < len(reach)


def unmet_supporters(moment, u, conditions):
    """The list of the supporters of u that make a vote on these conditions insufficient."""
    kept = kept_at(moment)
    needs = {t: [v for v in some if v not in kept] for t, some in leads_at(moment).items() if t not in kept}
    reach = reached_from(needs, [t for t in conditions if t not in kept])
    if is_hopeless(moment, needs, u, reach):
        return []
    # What is known kept is implied by any conditions, since the heard facts lead to it from nothing.
    implied = closed(heard_firm(moment), reach)
    return [t for t in supporters(moment, u) if t not in implied]


def faults_of(moment, event):
    """The list of the faults that make the history wrong if this event comes next."""
    if event[0] == "yes":
        return [("vote", event[1], t) for t in unmet_supporters(moment, event[1], event[2])]
    if event[0] == "back":
        return [("back", event[2], j) for j in later_rivals(moment, event[2])]
    return []


def first_faults(table, history):
    """The position of the first event with faults, and the list of them; (None, []) if there is none."""
    moment = Moment(table)
    for p, event in enumerate(history):
        faults = faults_of(moment, event)
        if faults:
            return (p, faults)
        happen(moment, event)
    return (None, [])


def is_right(table, history):
    """Whether the history is right at every moment."""
    checked_moment(table, history)
    return first_faults(table, history)[0] is None


def judge_history(table, history):
    """A certificate for whether the history is right at every moment."""
    checked_moment(table, history)
    p, faults = first_faults(table, history)
    return ("right",) if p is None else ("wrong", p, faults[0])


def is_fault(faults, thing):
    """Whether thing is one of the faults."""
    if not isinstance(thing, tuple) or len(thing) != 3 or not is_number(thing[1]) or not is_number(thing[2]):
        return False
    return thing in faults


def history_holds(table, history, thing):
    """Whether thing is a certificate for the history."""
    checked_moment(table, history)
    p, faults = first_faults(table, history)
    if p is None or not isinstance(thing, tuple) or len(thing) != 3:
        return p is None and thing == ("right",)
    return thing[0] == "wrong" and is_number(thing[1]) and thing[1] == p and is_fault(faults, thing[2])


def supports(table, history):
    """The ascending tuple of the pairs (t, u) such that t supports u at the end of the history."""
    found = supports_at(checked_moment(table, history))
    return tuple(sorted([(t, u) for u, helpers in found.items() for t in helpers]))


def active_moment(table, history, u):
    """The moment after the history; raises the error for a u that is not active then."""
    moment = checked_moment(table, history)
    check_active(moment, u)
    return moment


def full_conditions(table, history, u):
    """The ascending tuple of the transactions that support u and are not known kept."""
    return full_at(active_moment(table, history, u), u)


def is_enough(moment, u, conditions):
    """Whether a vote for u on these conditions is sufficient."""
    return unmet_supporters(moment, u, conditions) == []


def least_conditions(table, history, u):
    """As few conditions as possible with which a vote for u is possible and sufficient."""
    moment = active_moment(table, history, u)
    others = sorted([t for t in moment.steps_of if t != u])
    for size in range(len(others)):
        for conditions in combinations(others, size):
            if is_enough(moment, u, conditions):
                return conditions
    # The full conditions are among the others, and with more conditions more is implied.
    return tuple(others)


def is_sufficient(table, history, u, thing):
    """Whether thing is conditions with which a vote for u is possible and sufficient after the history."""
    moment = active_moment(table, history, u)
    return may_vote(moment, u, thing) and is_enough(moment, u, thing)
