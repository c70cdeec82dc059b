"""What is known at a site at a moment, that is, after some events of its history."""

from yesifs.checks import is_number, is_transaction
from yesifs.errors import BadHistory, BadTransaction
from yesifs.facts import are_conditions, closed, firm_by, is_fact, named_by
from yesifs.tables import check_table


class Moment:
    """A site after some events.

    steps has the pair (t, kind) for the position of each step, in order, and steps_of the list of the positions
    for each transaction with steps; rivals has, for each step, a dict of True for the steps that conflict with it.
    yes has the conditions for each transaction with a vote "yes", heard the fact for each of which one was heard.
    no, fallen and back (the steps that are taken back) are dicts of True.
    """

    def __init__(self, table):
        self.kinds = table[0]
        self.conflicts = {pair: True for pair in table[1]}
        self.many = 0
        self.steps = {}
        self.steps_of = {}
        self.rivals = {}
        self.yes = {}
        self.no = {}
        self.heard = {}
        self.fallen = {}
        self.back = {}
        self.word = []


def is_free(moment, t):
    """Whether t has not voted here and is not lost, and no fact of it was heard."""
    # Without a vote and a fact, nothing but a fall makes a transaction lost.
    return t not in moment.yes and t not in moment.no and t not in moment.heard and t not in moment.fallen


def is_active(moment, t):
    """Whether t has a step and no vote here, and is not lost."""
    # Of a transaction with a step and without a vote, only a fact "dropped" can be heard.
    return t in moment.steps_of and is_free(moment, t)


def may_vote(moment, t, conditions):
    """Whether the site can vote for t on these conditions, which can be any value."""
    if not is_active(moment, t) or not are_conditions(t, conditions):
        return False
    return all([u in moment.steps_of for u in conditions])


def may_hear(moment, fact):
    """Whether the fact can be heard."""
    t = fact[1]
    if fact[0] == "dropped" or t in moment.heard:
        return t not in moment.heard
    if t in moment.no or t in moment.fallen:
        return False
    if t not in moment.steps_of:
        return True
    return t in moment.yes and all([u in fact[2] for u in moment.yes[t]])


def may_take_back(moment, t, i):
    """Whether i, which can be any value, is a step of t that can be taken back."""
    if not is_number(i) or i not in moment.steps_of.get(t, ()):
        return False
    return i not in moment.back and t in lost_at(moment)


def is_possible(moment, thing):
    """Whether thing is an event that is possible now."""
    if not isinstance(thing, tuple) or not 1 <= len(thing) <= 3:
        return False
    if len(thing) == 1:
        return thing[0] == "fall"
    if thing[0] == "hear":
        return len(thing) == 2 and is_fact(thing[1]) and may_hear(moment, thing[1])
    if not is_transaction(thing[1]):
        return False
    if len(thing) == 2:
        return thing[0] == "no" and is_free(moment, thing[1])
    if thing[0] == "do":
        return thing[2] in moment.kinds and is_free(moment, thing[1])
    if thing[0] == "yes":
        return may_vote(moment, thing[1], thing[2])
    return thing[0] == "back" and may_take_back(moment, thing[1], thing[2])


def does_clash(moment, step, other):
    """Whether two different steps, given as pairs (t, kind), conflict."""
    kinds = (min(step[1], other[1]), max(step[1], other[1]))
    return step[0] == other[0] or kinds in moment.conflicts


def add_step(moment, i, t, kind):
    """Let t perform an operation of this kind at the position i."""
    moment.rivals[i] = {}
    for j, other in moment.steps.items():
        if does_clash(moment, (t, kind), other):
            moment.rivals[i][j] = True
            moment.rivals[j][i] = True
    moment.steps[i] = (t, kind)
    moment.steps_of.setdefault(t, []).append(i)
    moment.word.append((i, 1))


def take_back(moment, i):
    """Take the step i back."""
    moment.back[i] = True
    moment.word.append((i, -1))


def left_steps(moment):
    """The list of the steps that are not taken back, from the last position to the first."""
    return [i for i in reversed(list(moment.steps)) if i not in moment.back]


def fall(moment):
    """Let the site fall."""
    for t in moment.steps_of:
        if is_free(moment, t):
            moment.fallen[t] = True
    lost_ones = lost_at(moment)
    for i in left_steps(moment):
        if moment.steps[i][0] in lost_ones:
            take_back(moment, i)


def happen(moment, event):
    """Let a possible event happen."""
    if event[0] == "do":
        add_step(moment, moment.many, event[1], event[2])
    elif event[0] == "yes":
        moment.yes[event[1]] = event[2]
    elif event[0] == "no":
        moment.no[event[1]] = True
    elif event[0] == "hear":
        moment.heard[event[1][1]] = event[1]
    elif event[0] == "back":
        take_back(moment, event[2])
    else:
        fall(moment)
    moment.many += 1


def moment_after(table, history):
    """The moment after a history, or None for any value that is not a history."""
    if not isinstance(history, tuple):
        return None
    moment = Moment(table)
    for event in history:
        if not is_possible(moment, event):
            return None
        happen(moment, event)
    return moment


def checked_moment(table, history):
    """The moment after a history; raises the error for what is not a table, or not a history."""
    check_table(table)
    moment = moment_after(table, history)
    if moment is None:
        raise BadHistory(history)
    return moment


def check_active(moment, thing):
    """Raise BadTransaction for what is not an active transaction."""
    if not is_transaction(thing) or not is_active(moment, thing):
        raise BadTransaction(thing)


def heard_firm(moment):
    """A dict of the conditions of each transaction of which a fact "firm" was heard."""
    return firm_by(list(moment.heard.values()))


def kept_at(moment):
    """A dict of True for the transactions that are known kept."""
    return closed(heard_firm(moment), [])


def sworn_at(moment):
    """A dict of the conditions of each transaction with a fact "firm" that was heard, or else with a vote "yes"."""
    # The conditions of a vote are among those of the fact, so they need not be kept beside them.
    yes, firm = moment.yes, heard_firm(moment)
    return {**yes, **firm}


def concerned_at(moment):
    """The ascending list of the transactions that have a step here, or a fact that was heard or a condition of one."""
    return sorted(set(list(moment.steps_of) + named_by(list(moment.heard.values()))))


def lost_if(moment, more):
    """A dict of True for the transactions that are lost once more with steps here are voted against."""
    sworn = sworn_at(moment)
    named = concerned_at(moment) + list(moment.no)
    refused = [t for t in named if t in more or t in moment.no or t in moment.fallen
               or moment.heard.get(t) == ("dropped", t)]
    # A transaction is lost if it leads to a refused one, or on without end, and that is, into a ring.
    hopeful = closed({t: sworn.get(t, ()) for t in named if t not in refused}, [])
    return {t: True for t in named if t not in hopeful}


def lost_at(moment):
    """A dict of True for the lost transactions."""
    return lost_if(moment, [])


def supporters(moment, u):
    """The ascending tuple of the transactions that support u."""
    found = []
    for j in moment.steps_of.get(u, ()):
        if j not in moment.back:
            found += [moment.steps[i][0] for i in moment.rivals[j] if i < j and i not in moment.back]
    return tuple([t for t in sorted(set(found)) if t != u])


def later_rivals(moment, i):
    """The list of the later steps that conflict with the step i and are not taken back."""
    return [j for j in moment.rivals[i] if j > i and j not in moment.back]


def full_at(moment, u):
    """The full conditions of an active transaction u."""
    kept = kept_at(moment)
    return tuple([t for t in supporters(moment, u) if t not in kept])


def leads_at(moment):
    """A dict of the conditions of each transaction: of its fact "firm", else of its vote, else, if active, the full."""
    sworn = sworn_at(moment)
    active = {t: full_at(moment, t) for t in moment.steps_of if is_active(moment, t)}
    return {**active, **sworn}
