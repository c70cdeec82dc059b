"""What DOC.md says of stores, cascades and views, once more, word by word and without any regard for speed."""

from itertools import permutations

from tests import reference
from tests import reference_logs as logs
from tests import reference_sites as sites


class Model:
    def __init__(self, many):
        self.many = many
        self.states = [((), 0, ())] * many
        self.up = [True] * many
        self.sent = set()
        self.started = set()

    def copied(self):
        other = Model(self.many)
        other.states, other.up = list(self.states), list(self.up)
        other.sent, other.started = set(self.sent), set(self.started)
        return other


def entries(model, s):
    return {entry[0]: entry for entry in model.states[s][2]}


def leads_up(model, t):
    return reference.is_number(t) and model.up[t % model.many]


def has_entry(model, t):
    return leads_up(model, t) and t in entries(model, t % model.many)


def has_unasked(model, t):
    return has_entry(model, t) and not entries(model, t % model.many)[t][3]


def is_up(model, s):
    return logs.is_site(model.many, s) and model.up[s]


def is_down(model, s):
    return logs.is_site(model.many, s) and not model.up[s]


def can_perform(model, t, s, operation):
    log = model.states[s][0]
    row = ("do", t, operation, logs.amounts(log).get(operation[1], 0))
    return logs.is_next(log, row)


def restart_rows(model, s):
    log = model.states[s][0]
    return logs.refuse_rows(log, logs.active(log))


def is_sent(model, message):
    return logs.is_message(model.many, message) and message in model.sent


def is_fall(model, s, rows):
    return (is_up(model, s) and logs.is_integer(rows)
            and rows in range(model.states[s][1], len(model.states[s][0]) + 1))


POSSIBLE = {
    "start": lambda model, t: leads_up(model, t) and t not in model.started,
    "do": lambda model, t, s, operation: (has_unasked(model, t) and is_up(model, s) and logs.is_operation(operation)
                                          and can_perform(model, t, s, operation)),
    "ask": has_unasked,
    "give": has_entry,
    "refuse": lambda model, t, s: reference.is_number(t) and is_up(model, s) and t in logs.active(model.states[s][0]),
    "force": is_up,
    "deliver": lambda model, message: is_sent(model, message) and model.up[logs.goes_to(model.many, message)],
    "wonder": lambda model, t: reference.is_number(t) and t in model.started,
    "fall": is_fall,
    "up": is_down,
    "amid": lambda model, s, k: (is_down(model, s) and logs.is_integer(k)
                                 and k in range(len(restart_rows(model, s)) + 1)),
}
SIZES = {"start": 2, "do": 4, "ask": 2, "give": 2, "refuse": 3, "force": 2, "deliver": 2, "wonder": 2, "fall": 3,
         "up": 2, "amid": 3}


def is_possible(model, thing):
    if type(thing) is not tuple or len(thing) == 0 or type(thing[0]) is not str or thing[0] not in POSSIBLE:
        return False
    return len(thing) == SIZES[thing[0]] and POSSIBLE[thing[0]](model, *thing[1:])


def set_entry(model, entry):
    s = entry[0] % model.many
    log, forced, desk = model.states[s]
    model.states[s] = (log, forced, tuple(sorted(logs.without(desk, entry[0]) + (entry,))))


def start(model, t):
    model.started.add(t)
    set_entry(model, (t, (), (), False))


def perform(model, t, s, operation):
    log, forced, desk = model.states[s]
    before = logs.amounts(log).get(operation[1], 0)
    model.states[s] = (log + (("do", t, operation, before),), forced, desk)
    counts = dict(entries(model, t % model.many)[t][1])
    counts[s] = counts.get(s, 0) + 1
    set_entry(model, (t, tuple(sorted(counts.items())), (), False))
    return before


def ask(model, t):
    counts = entries(model, t % model.many)[t][1]
    if not counts:
        give(model, t)
    else:
        set_entry(model, (t, counts, (), True))
        model.sent |= {("ask", t, s, count) for s, count in counts}


def give(model, t):
    s = t % model.many
    model.states[s], sent = logs.decided(model.many, s, model.states[s], ("dropped", t))
    model.sent |= set(sent)


def refuse(model, t, s):
    log, forced, desk = model.states[s]
    model.states[s] = (log + logs.refuse_rows(log, (t,)), forced, desk)


def force(model, s):
    log, _, desk = model.states[s]
    model.states[s] = (log, len(log), desk)


def deliver(model, message):
    s = logs.goes_to(model.many, message)
    model.states[s], sent = logs.received(model.many, s, model.states[s], message)
    model.sent |= set(sent)


def fall(model, s, rows):
    log, forced, _ = model.states[s]
    model.states[s], model.up[s] = (log[:rows], forced, ()), False


def rise(model, s):
    model.states[s], model.up[s] = logs.restarted(model.states[s]), True


def break_off(model, s, k):
    log, forced, desk = model.states[s]
    model.states[s] = (log + restart_rows(model, s)[:k], forced, desk)


DONE = {"start": start, "do": perform, "ask": ask, "give": give, "refuse": refuse, "force": force, "deliver": deliver,
        "wonder": lambda model, t: model.sent.add(("what", t)), "fall": fall, "up": rise, "amid": break_off}


def do(model, order):
    return DONE[order[0]](model, *order[1:])


def facts(model):
    found = {fact for log, _, _ in model.states for fact in logs.heard(log).values()}
    return tuple(sorted(found, key=lambda fact: fact[1]))


def close(model):
    for s in range(model.many):
        if not model.up[s]:
            rise(model, s)
    for s in range(model.many):
        for t in sorted(entries(model, s)):
            give(model, t)
    model.sent |= {("what", t) for t in model.started}
    while True:
        before = (list(model.states), set(model.sent))
        for message in sorted(before[1]):
            deliver(model, message)
        if before == (model.states, model.sent):
            return


# Cascades


def state_of(log, t):
    past = logs.events(log)
    if t in sites.known_kept(past):
        return "kept"
    if t in sites.lost(past):
        return "lost"
    return "voted" if t in sites.yes_votes(past) else "active" if t in sites.performers(past) else "new"


def cascade(log, t):
    after = log + logs.refuse_rows(log, (t,))
    found = [u for u in sites.performers(logs.events(log))
             if state_of(log, u) in ("active", "voted") and state_of(after, u) == "lost"]
    return (tuple(sorted(found)), len([row for row in after[len(log):] if row[0] == "back"]))


def is_script(thing):
    if type(thing) is not tuple or not all(type(part) is tuple and len(part) == 2 for part in thing):
        return False
    for t, operations in thing:
        if not reference.is_number(t) or type(operations) is not tuple or len(operations) == 0:
            return False
        if not all(logs.is_operation(operation) for operation in operations):
            return False
    return logs.is_ascending([t for t, _ in thing])


def turns(script):
    return [t for t, operations in script for _ in operations]


def is_interleaving(script, thing):
    return (type(thing) is tuple and all(reference.is_number(part) for part in thing)
            and sorted(thing) == sorted(turns(script)))


def log_of(script, interleaving):
    log = ()
    for at, t in enumerate(interleaving):
        operation = dict(script)[t][interleaving[:at].count(t)]
        log += (("do", t, operation, logs.amounts(log).get(operation[1], 0)),)
    return log


def waits(script, interleaving):
    log = log_of(script, interleaving)
    return tuple([(i, j) for i in range(len(log)) for j in range(i + 1, len(log)) if log[i][1] != log[j][1]
                  and sites.do_steps_conflict(logs.table(log), logs.events(log), i, j)])


def greatest_cascade(script, t):
    found = [cascade(log_of(script, order), t) + (order,) for order in sorted(set(permutations(turns(script))))]
    return [one for one in found if one[1] == max(cost for _, cost, _ in found)][0]


# Views


def table(all_logs):
    return logs.key_table(tuple(sorted({key for log in all_logs for key in logs.keys(log)})))


def run(all_logs):
    left, found = [list(logs.events(log)) for log in all_logs], ()
    while any(left):
        votes = {event[1] for some in left for event in some if event[0] == "yes"}
        for s, some in enumerate(left):
            if some and not (some[0][0] == "hear" and some[0][1][0] == "firm" and some[0][1][1] in votes):
                found += ((s, some.pop(0)),)
                break
    return found
