"""What DOC.md says of runs, once more, word by word and without any regard for speed."""

from itertools import permutations, product

from tests import reference
from tests import reference_sites as sites


def history(run, s):
    return tuple([event for site, event in run if site == s])


def performing(run, t):
    return [s for s in range(4) if t in sites.performers(history(run, s))]


def all_conditions(run, t):
    """The conditions of all votes for t; None if a site with steps of t has not voted "yes"."""
    votes = [sites.yes_votes(history(run, s)) for s in performing(run, t)]
    if not votes or not all(t in some for some in votes):
        return None
    return tuple(sorted({u for some in votes for u in some[t]}))


def is_run(table, thing):
    if type(thing) is not tuple:
        return False
    for part in thing:
        if type(part) is not tuple or len(part) != 2 or type(part[0]) is not int or part[0] not in range(4):
            return False
    if not all(sites.is_history(table, history(thing, s)) for s in range(4)):
        return False
    return is_timely_run(thing)


def is_timely_run(run):
    """Whether the facts are heard as a run requires; the events of each site are known to be a history."""
    return all(is_timely(run, p) for p, (_, event) in enumerate(run) if event[0] == "hear")


def is_timely(run, p):
    fact = run[p][1][1]
    same = [event[1] for _, event in run if event[0] == "hear" and event[1][1] == fact[1]]
    if len(set(same)) > 1:
        return False
    if fact[0] == "dropped" or ("hear", fact) in [event for _, event in run[:p]]:
        return True
    return (all_conditions(run[:p], fact[1]) == fact[2] and ("no", fact[1]) not in [event for _, event in run]
            and ("do", fact[1]) not in [event[:2] for _, event in run[p:]])


def facts(run):
    return tuple(sorted({event[1] for _, event in run if event[0] == "hear"}, key=lambda fact: fact[1]))


def completions(run):
    pairs = {pair for s in range(4) for pair in sites.pledges(history(run, s))}
    named = {t for s in range(4) for t in sites.performers(history(run, s))} | {u for _, u in pairs}
    choices = [(fact,) for fact in facts(run)]
    for t in sorted(named - sites.owners(facts(run))):
        conditions = all_conditions(run, t)
        refused = ("no", t) in [event for _, event in run]
        choices.append((("dropped", t),) if conditions is None or refused
                       else (("dropped", t), ("firm", t, conditions)))
    return tuple(sorted([tuple(sorted(found, key=lambda fact: fact[1])) for found in product(*choices)]))


def is_serial(table, run, s, order):
    past = history(run, s)
    here = [t for t in order if t in sites.performers(past)]
    return sites.are_same(table, past, sites.settled(past, here), sites.serial(past, here))


def is_before(table, run, t, u):
    return any(sites.do_steps_conflict(table, past, i, j)
               for past in [history(run, s) for s in range(4)]
               for i, (owner, _) in sites.steps(past).items() if owner == t
               for j, (other, _) in sites.steps(past).items() if other == u and i < j)


def holds(table, run, completion, thing):
    kept = reference.kept(completion)
    if type(thing) is not tuple or len(thing) != 2:
        return False
    if thing[0] == "site":
        return (type(thing[1]) is int and thing[1] in range(4)
                and not any(is_serial(table, run, thing[1], order) for order in permutations(kept)))
    if type(thing[1]) is not tuple or not all(reference.is_number(part) for part in thing[1]):
        return False
    order = thing[1]
    if thing[0] == "serial":
        return sorted(order) == sorted(kept) and all(is_serial(table, run, s, order) for s in range(4))
    return (thing[0] == "ring" and len(order) >= 2 and len(set(order)) == len(order) and set(order) <= kept
            and all(is_before(table, run, t, u) for t, u in zip(order, order[1:] + order[:1])))


def is_right_run(table, run):
    return all(any(all(is_serial(table, run, s, order) for s in range(4))
                   for order in permutations(reference.kept(completion)))
               for completion in completions(run))


def are_sites_right(table, run):
    return all(sites.is_right(table, history(run, s)) for s in range(4))
