"""What DOC.md says of histories and runs, once more, word by word and without any regard for speed."""

from functools import lru_cache
from itertools import combinations, permutations, product

from tests import reference

EVENTS = {"do": 3, "yes": 3, "no": 2, "hear": 2, "back": 3, "fall": 1}


def is_table_conflict(table, one, other):
    return tuple(sorted([one, other])) in table[1]


def steps(events):
    return {i: (event[1], event[2]) for i, event in enumerate(events) if event[0] == "do"}


def performers(events):
    return {t for t, _ in steps(events).values()}


def yes_votes(events):
    return {event[1]: event[2] for event in events if event[0] == "yes"}


def no_votes(events):
    return {event[1] for event in events if event[0] == "no"}


def voted(events):
    return set(yes_votes(events)) | no_votes(events)


def heard(events):
    return tuple(sorted([event[1] for event in events if event[0] == "hear"], key=lambda fact: fact[1]))


def owners(facts):
    return {fact[1] for fact in facts}


@lru_cache(None)
def fallen(events):
    found = set()
    for p, event in enumerate(events):
        if event[0] == "fall":
            past = events[:p]
            found |= performers(past) - voted(past) - owners(heard(past))
    return frozenset(found)


def pledges(events):
    """All pairs of a transaction and a condition of its vote "yes" or of its fact "firm" that was heard."""
    firm = reference.firm_of(heard(events))
    return {(t, u) for some in (yes_votes(events), firm) for t, conditions in some.items() for u in conditions}


def rings(pairs):
    """The members of all tuples of different items in which each item has a pair with the next one."""
    nodes = {t for pair in pairs for t in pair}
    found = set()
    for size in range(2, len(nodes) + 1):
        for ring in permutations(sorted(nodes), size):
            if all(pair in pairs for pair in zip(ring, ring[1:] + ring[:1])):
                found |= set(ring)
    return found


@lru_cache(None)
def lost(events):
    return lost_if(events, fallen(events))


def lost_if(events, fallen_ones):
    pairs = pledges(events)
    found = set(no_votes(events) | fallen_ones | reference.dropped(heard(events)) | rings(pairs))
    while True:
        more = found | {t for t, u in pairs if u in found}
        if more == found:
            return frozenset(found)
        found = more


def known_kept(events):
    return reference.kept(heard(events))


def active(events):
    return performers(events) - voted(events) - lost(events)


@lru_cache(None)
def word(events):
    letters = []
    for p, event in enumerate(events):
        if event[0] == "do":
            letters.append((p, 1))
        if event[0] == "back":
            letters.append((event[2], -1))
        if event[0] == "fall":
            gone = lost(events[:p + 1])
            for i in sorted(steps(events[:p]), reverse=True):
                if steps(events)[i][0] in gone and (i, -1) not in letters:
                    letters.append((i, -1))
    return tuple(letters)


def taken_back(events):
    return {i for i, sign in word(events) if sign == -1}


def is_plain_number(thing):
    return type(thing) is int


def is_conditions(thing, t):
    return (type(thing) is tuple and all(reference.is_number(part) for part in thing)
            and list(thing) == sorted(set(thing)) and t not in thing)


def is_event(table, events, thing):
    if type(thing) is not tuple or len(thing) == 0 or type(thing[0]) is not str or thing[0] not in EVENTS:
        return False
    if len(thing) != EVENTS[thing[0]]:
        return False
    if thing[0] == "fall":
        return True
    if thing[0] == "hear":
        return reference.is_fact(thing[1]) and is_hearable(events, thing[1])
    t = thing[1]
    if not reference.is_number(t):
        return False
    known = t in owners(heard(events))
    if thing[0] == "do":
        return (type(thing[2]) is str and thing[2] in table[0] and t not in voted(events) and t not in lost(events)
                and not known)
    if thing[0] == "yes":
        return (is_conditions(thing[2], t) and set(thing[2]) <= performers(events) and t in performers(events)
                and t not in voted(events) and t not in lost(events) and not known)
    if thing[0] == "no":
        return t not in voted(events) and t not in fallen(events) and not known
    i = thing[2]
    return (is_plain_number(i) and t in lost(events) and i in steps(events) and steps(events)[i][0] == t
            and i not in taken_back(events))


def is_hearable(events, fact):
    t = fact[1]
    if t in owners(heard(events)):
        return False
    if fact[0] == "dropped":
        return True
    if t in no_votes(events) or t in fallen(events):
        return False
    return t not in performers(events) or (
        t in yes_votes(events) and set(yes_votes(events)[t]) <= set(fact[2]))


def is_history(table, thing):
    return type(thing) is tuple and all(is_event(table, thing[:p], event) for p, event in enumerate(thing))


def do_steps_conflict(table, events, i, j):
    (t, one), (u, other) = steps(events)[i], steps(events)[j]
    return i != j and (t == u or is_table_conflict(table, one, other))


def neighbours(table, events, letters):
    """All words that one exchange or one removal makes of a word."""
    for at in range(len(letters) - 1):
        (i, sign), (j, other) = letters[at:at + 2]
        if i == j and sign == -other:
            yield letters[:at] + letters[at + 2:]
        if i != j and not do_steps_conflict(table, events, i, j):
            yield letters[:at] + (letters[at + 1], letters[at]) + letters[at + 2:]


def reachable(table, events, letters):
    found, waiting = {letters}, [letters]
    while waiting:
        for more in neighbours(table, events, waiting.pop()):
            if more not in found:
                found.add(more)
                waiting.append(more)
    return found


def are_same_words(table, events, one, other):
    """The very words of [4.3]; only for short words."""
    return bool(reachable(table, events, one) & reachable(table, events, other))


def shortened(table, events, letters):
    for at, (i, sign) in enumerate(letters):
        for after in range(at + 1, len(letters)):
            if letters[after] == (i, -sign) and not any(
                    j == i or do_steps_conflict(table, events, i, j) for j, _ in letters[at + 1:after]):
                return letters[:at] + letters[at + 1:after] + letters[after + 1:]
    return letters


def are_same(table, events, one, other):
    """As are_same_words, for words in which each letter stands at most once; test_words compares the two."""
    words = []
    for letters in (one, other):
        while shortened(table, events, letters) != letters:
            letters = shortened(table, events, letters)
        words.append(letters)
    one, other = words
    if sorted(one) != sorted(other):
        return False
    return all(other.index(a) < other.index(b) for a, b in combinations(one, 2)
               if a[0] == b[0] or do_steps_conflict(table, events, a[0], b[0]))


def supporters(table, events, u):
    left = {i: t for i, (t, _) in steps(events).items() if i not in taken_back(events)}
    return {left[i] for i in left for j in left
            if left[j] == u and left[i] != u and i < j and do_steps_conflict(table, events, i, j)}


def supports(table, events):
    return tuple(sorted([(t, u) for u in performers(events) for t in supporters(table, events, u)]))


def full(table, events, u):
    return tuple(sorted(supporters(table, events, u) - known_kept(events)))


def completions(table, events):
    named = performers(events) | {u for _, u in pledges(events)}
    choices = [(fact,) for fact in heard(events)]
    for t in sorted(named - owners(heard(events))):
        some = [("dropped", t)]
        if t in yes_votes(events):
            some.append(("firm", t, yes_votes(events)[t]))
        if t in active(events):
            some.append(("firm", t, full(table, events, t)))
        if t not in performers(events) and t not in no_votes(events):
            some.append(("firm", t, ()))
        choices.append(tuple(some))
    return [tuple(sorted(facts, key=lambda fact: fact[1])) for facts in product(*choices)]


@lru_cache(None)
def outcomes(table, events):
    return tuple(sorted({tuple(sorted(reference.kept(facts) & performers(events)))
                         for facts in completions(table, events)}))


def settled(events, outcome):
    return word(events) + tuple([(i, -1) for i in sorted(steps(events), reverse=True)
                                 if i not in taken_back(events) and steps(events)[i][0] not in outcome])


def serial(events, order):
    return tuple([(i, 1) for t in order for i, (u, _) in sorted(steps(events).items()) if u == t])


def conditions_of(table, events, t):
    firm = reference.firm_of(heard(events))
    if t in firm:
        return firm[t]
    if t in yes_votes(events):
        return yes_votes(events)[t]
    return full(table, events, t) if t in active(events) else ()


def closure(start, step):
    found = set(start)
    while True:
        more = found | {u for t in found for u in step(t)}
        if more == found:
            return found
        found = more


def led_to(table, events, t):
    return closure(conditions_of(table, events, t), lambda u: conditions_of(table, events, u))


def is_allowed(table, events, order):
    return not any(after != t and after in led_to(table, events, t)
                   for at, t in enumerate(order) for after in order[at:])


@lru_cache(None)
def is_right_now(table, events):
    return all(any(are_same(table, events, settled(events, outcome), serial(events, order))
                   for order in permutations(outcome) if is_allowed(table, events, order))
               for outcome in outcomes(table, events))


def is_right(table, events):
    return all(is_right_now(table, events[:p]) and is_right_now(table, events[:p] + (("fall",),))
               for p in range(len(events) + 1))


def needs(table, events, t):
    if t in known_kept(events):
        return set()
    firm = reference.firm_of(heard(events))
    if t in firm:
        return set(firm[t])
    if t in yes_votes(events):
        return set(yes_votes(events)[t])
    return set(full(table, events, t)) if t in active(events) else set()


def reach(table, events, conditions):
    kept = known_kept(events)
    return closure(set(conditions) - kept, lambda t: needs(table, events, t) - kept)


def implied(table, events, conditions):
    found = reach(table, events, conditions) | known_kept(events)
    while True:
        more = found | {t for t, some in reference.firm_of(heard(events)).items() if set(some) <= found}
        if more == found:
            return found
        found = more


def unmet(table, events, u, conditions):
    """The supporters that make the vote insufficient."""
    far = reach(table, events, conditions)
    pairs = {(t, v) for t in far for v in needs(table, events, t)}
    if far & lost(events) or u in far or far & rings(pairs):
        return set()
    return supporters(table, events, u) - implied(table, events, conditions)


def is_sufficient(table, events, u, thing):
    return is_event(table, events, ("yes", u, thing)) and not unmet(table, events, u, thing)


def unnested(table, events, i):
    return {j for j in steps(events) if j > i and do_steps_conflict(table, events, i, j)
            and j not in taken_back(events)}


def faults(table, past, event):
    """All faults of an event after a history."""
    if event[0] == "yes":
        return [("vote", event[1], t) for t in sorted(unmet(table, past, event[1], event[2]))]
    if event[0] == "back":
        return [("back", event[2], j) for j in sorted(unnested(table, past, event[2]))]
    return []


def certificates(table, events):
    """All certificates for a history."""
    for p, event in enumerate(events):
        found = faults(table, events[:p], event)
        if found:
            return [("wrong", p, fault) for fault in found]
    return [("right",)]


def least(table, events, u):
    """The number of the least conditions."""
    others = sorted(performers(events) - {u})
    return min([len(part) for part in reference.subsets(others) if is_sufficient(table, events, u, part)])
