"""What DOC.md says of facts, once more, word by word and without any regard for speed."""

from itertools import combinations, permutations


def is_number(thing):
    return type(thing) is int and thing >= 0


def is_fact(thing):
    if type(thing) is not tuple or len(thing) == 0 or thing[0] not in ("firm", "dropped"):
        return False
    if thing[0] == "dropped":
        return len(thing) == 2 and is_number(thing[1])
    if len(thing) != 3 or not is_number(thing[1]) or type(thing[2]) is not tuple:
        return False
    if not all(is_number(part) for part in thing[2]):
        return False
    return list(thing[2]) == sorted(set(thing[2])) and thing[1] not in thing[2]


def are_facts(thing):
    if type(thing) is not tuple or not all(is_fact(part) for part in thing):
        return False
    owners = [fact[1] for fact in thing]
    return owners == sorted(set(owners))


def firm_of(facts):
    return {fact[1]: fact[2] for fact in facts if fact[0] == "firm"}


def kept(facts):
    found = set()
    while True:
        more = {t for t, conditions in firm_of(facts).items() if set(conditions) <= found}
        if more == found:
            return found
        found = more


def rings(facts):
    firm = firm_of(facts)
    for size in range(2, len(firm) + 1):
        for ring in permutations(firm, size):
            if all(after in firm[here] for here, after in zip(ring, ring[1:] + ring[:1])):
                yield ring


def dropped(facts):
    found = {fact[1] for fact in facts if fact[0] == "dropped"} | {t for ring in rings(facts) for t in ring}
    while True:
        more = found | {t for t, conditions in firm_of(facts).items() if set(conditions) & found}
        if more == found:
            return found
        found = more


def fate(facts, t):
    return "kept" if t in kept(facts) else "dropped" if t in dropped(facts) else "open"


def named(facts):
    return {fact[1] for fact in facts} | {u for conditions in firm_of(facts).values() for u in conditions}


def needed(facts, t):
    firm = firm_of(facts)
    found = {t} if fate(facts, t) == "open" else set()
    while True:
        more = found | {u for here in found for u in firm.get(here, ()) if fate(facts, u) == "open"}
        if more == found:
            return tuple(sorted(found - {fact[1] for fact in facts}))
        found = more


def holds(facts, t, thing):
    firm = firm_of(facts)
    if type(thing) is not tuple or len(thing) < 2:
        return False
    if thing[0] == "open":
        owners = {fact[1] for fact in facts}
        return (len(thing) == 3 and all(are_facts(part) for part in thing[1:])
                and all(fact[1] not in owners for part in thing[1:] for fact in part)
                and t in kept(facts + thing[1]) and t in dropped(facts + thing[2]))
    if len(thing) != 2 or type(thing[1]) is not tuple or not all(is_number(part) for part in thing[1]):
        return False
    parts = thing[1]
    if thing[0] == "kept":
        return (len(parts) > 0 and parts[-1] == t and len(set(parts)) == len(parts)
                and all(u in firm and set(firm[u]) <= set(parts[:at]) for at, u in enumerate(parts)))
    if thing[0] == "dropped":
        return (len(parts) > 0 and parts[0] == t
                and all(here in firm and after in firm[here] for here, after in zip(parts, parts[1:]))
                and (("dropped", parts[-1]) in facts or parts[-1] in parts[:-1]))
    return False


def subsets(items):
    return [part for size in range(len(items) + 1) for part in combinations(items, size)]


def all_facts(owners, named_ones):
    """All facts tuples whose facts are of some of the owners, with conditions among named_ones."""
    found = [()]
    for t in owners:
        choices = [(("firm", t, part),) for part in subsets([u for u in named_ones if u != t])]
        found = [facts + more for facts in found for more in [(), (("dropped", t),)] + choices]
    return found
