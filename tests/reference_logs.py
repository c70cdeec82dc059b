"""What DOC.md says of logs, sites and messages, once more, word by word and without any regard for speed."""

from tests import reference
from tests import reference_sites as sites

LETTERS = "abcdefghijklmnopqrstuvwxyz"


def is_integer(thing):
    return type(thing) is int


def is_key(thing):
    return type(thing) is str and len(thing) in range(1, 10) and all(letter in LETTERS for letter in thing)


def is_operation(thing):
    if type(thing) is not tuple or len(thing) == 0 or type(thing[0]) is not str:
        return False
    if thing[0] == "get":
        return len(thing) == 2 and is_key(thing[1])
    return thing[0] in ("set", "add") and len(thing) == 3 and is_key(thing[1]) and is_integer(thing[2])


def kind(operation):
    return {"get": "g", "set": "s", "add": "a"}[operation[0]] + operation[1]


def key_table(keys):
    kinds = sorted([word[0] + key for key in keys for word in ("get", "set", "add")])
    conflicts = sorted([(one, other) for one in kinds for other in kinds if one <= other and one[1:] == other[1:]
                        and (one[0], other[0]) not in (("g", "g"), ("a", "a"))])
    return (tuple(kinds), tuple(conflicts))


def keys(rows):
    return tuple(sorted({row[2][1] for row in rows if row[0] == "do"}))


def table(rows):
    return key_table(keys(rows))


def events(rows):
    return tuple([("do", row[1], kind(row[2])) if row[0] == "do" else row for row in rows])


def amounts(rows):
    """The value of each key after the rows."""
    found = {key: 0 for key in keys(rows)}
    for row in rows:
        if row[0] == "do" and row[2][0] == "set":
            found[row[2][1]] = row[2][2]
        if row[0] == "do" and row[2][0] == "add":
            found[row[2][1]] += row[2][2]
        if row[0] == "back":
            operation, before = rows[row[2]][2:]
            if operation[0] == "set":
                found[operation[1]] = before
            if operation[0] == "add":
                found[operation[1]] -= operation[2]
    return found


def values(rows):
    return tuple(sorted([pair for pair in amounts(rows).items() if pair[1] != 0]))


def is_row_shape(row):
    if type(row) is not tuple or len(row) == 0 or type(row[0]) is not str:
        return False
    if row[0] == "do":
        return len(row) == 4 and reference.is_number(row[1]) and is_operation(row[2]) and is_integer(row[3])
    return row[0] in ("yes", "no", "hear", "back")


def is_next(rows, row):
    """Whether a row can come after the rows of a log."""
    if not is_row_shape(row):
        return False
    past, wide = events(rows), table(rows + ((row,) if row[0] == "do" else ()))
    if not sites.is_event(wide, past, events((row,))[0]):
        return False
    if row[0] == "do":
        return row[3] == amounts(rows).get(row[2][1], 0)
    if row[0] == "yes":
        return row[2] == sites.full(wide, past, row[1])
    if row[0] == "no":
        return row[1] in sites.active(past)
    return row[0] != "back" or not sites.unnested(wide, past, row[2])


def is_log(thing):
    return type(thing) is tuple and all(is_next(thing[:p], row) for p, row in enumerate(thing))


def left(rows):
    return [i for i in sites.steps(events(rows)) if i not in sites.taken_back(events(rows))]


def refused(rows, some):
    """The least set of active transactions that refusing some draws along."""
    past, owner = events(rows), {i: t for i, (t, _) in sites.steps(events(rows)).items()}
    found = set(some)
    while True:
        lost = sites.lost(past + tuple([("no", t) for t in sorted(found)]))
        more = {owner[j] for j in left(rows) for i in left(rows)
                if i < j and owner[j] in sites.active(past) and sites.do_steps_conflict(table(rows), past, i, j)
                and (owner[i] in found or owner[i] in lost)}
        if more <= found:
            return tuple(sorted(found))
        found |= more


def refuse_rows(rows, some):
    no = tuple([("no", t) for t in refused(rows, some)])
    lost = sites.lost(events(rows + no))
    return no + tuple([("back", rows[i][1], i) for i in sorted(left(rows), reverse=True) if rows[i][1] in lost])


def active(rows):
    return tuple(sorted(sites.active(events(rows))))


def heard(rows):
    return {fact[1]: fact for fact in sites.heard(events(rows))}


# Sites and messages


def is_site(many, thing):
    return type(thing) is int and thing in range(many)


def is_conditions(thing, t):
    return sites.is_conditions(thing, t)


def is_ascending(thing):
    return list(thing) == sorted(set(thing))


def is_entry(many, here, log, thing):
    if type(thing) is not tuple or len(thing) != 4:
        return False
    t, counts, votes, is_asked = thing
    if not reference.is_number(t) or t % many != here or t in heard(log) or type(is_asked) is not bool:
        return False
    for some in (counts, votes):
        if type(some) is not tuple or not all(type(part) is tuple and len(part) == 2 for part in some):
            return False
        if not all(is_site(many, s) for s, _ in some) or not is_ascending([s for s, _ in some]):
            return False
    if not all(is_integer(count) and count >= 1 for _, count in counts):
        return False
    if not all(s in dict(counts) and is_conditions(conditions, t) for s, conditions in votes):
        return False
    return is_asked or votes == ()


def is_state(many, here, thing):
    if type(thing) is not tuple or len(thing) != 3:
        return False
    log, forced, desk = thing
    if not is_log(log) or not is_integer(forced) or forced not in range(len(log) + 1) or type(desk) is not tuple:
        return False
    return all(is_entry(many, here, log, entry) for entry in desk) and is_ascending([entry[0] for entry in desk])


def is_message(many, thing):
    if type(thing) is not tuple or len(thing) == 0 or type(thing[0]) is not str:
        return False
    sizes = {"ask": 4, "vote": 4, "tell": 3, "what": 2}
    if sizes.get(thing[0]) != len(thing):
        return False
    if thing[0] == "tell":
        return reference.is_fact(thing[1]) and is_site(many, thing[2])
    if not reference.is_number(thing[1]) or thing[0] != "what" and not is_site(many, thing[2]):
        return False
    if thing[0] == "ask":
        return is_integer(thing[3]) and thing[3] >= 1
    return thing[0] == "what" or thing[3] is None or is_conditions(thing[3], thing[1])


def goes_to(many, message):
    return message[2] if message[0] in ("ask", "tell") else message[1] % many


def without(desk, t):
    return tuple([entry for entry in desk if entry[0] != t])


def settled(log):
    return log + refuse_rows(log, ())


def told(many, here, fact):
    return tuple([("tell", fact, s) for s in range(many) if s != here])


def decided(many, here, state, fact):
    """The pair of the state and the messages after the site decides a fact that it can hear."""
    log, _, desk = state
    t = fact[1]
    if fact[0] == "dropped" and t in active(log):
        log += refuse_rows(log, (t,))
    log += (("hear", fact),)
    return ((settled(log), len(log), without(desk, t)), told(many, here, fact))


def received(many, here, state, message):
    answers = {"ask": after_ask, "vote": after_vote, "tell": after_tell, "what": after_what}
    state, sent = answers[message[0]](many, here, state, message)
    return (state, tuple(sorted(sent)))


def after_ask(many, here, state, message):
    log, _, desk = state
    _, t, _, count = message
    votes = sites.yes_votes(events(log))
    if t in votes:
        return (state, (("vote", t, here, votes[t]),))
    if t in active(log) and len([row for row in log if row[:2] == ("do", t)]) == count:
        conditions = sites.full(table(log), events(log), t)
        log += (("yes", t, conditions),)
        return ((log, len(log), desk), (("vote", t, here, conditions),))
    return (state, (("vote", t, here, None),))


def after_vote(many, here, state, message):
    log, forced, desk = state
    _, t, s, conditions = message
    entries = {entry[0]: entry for entry in desk}
    if t in heard(log):
        return (state, (("tell", heard(log)[t], s),))
    if t not in entries or conditions is None:
        return decided(many, here, state, ("dropped", t))
    _, counts, votes, is_asked = entries[t]
    if not is_asked or s not in dict(counts) or s in dict(votes):
        return (state, ())
    votes = tuple(sorted(votes + ((s, conditions),)))
    state = (log, forced, tuple(sorted(without(desk, t) + ((t, counts, votes, True),))))
    fact = ("firm", t, tuple(sorted({u for _, some in votes for u in some})))
    if set(dict(votes)) == set(dict(counts)) and sites.is_hearable(events(log), fact):
        return decided(many, here, state, fact)
    return (state, ())


def after_tell(many, here, state, message):
    log, forced, desk = state
    if not sites.is_hearable(events(log), message[1]):
        return (state, ())
    return ((settled(log + (("hear", message[1]),)), forced, without(desk, message[1][1])), ())


def after_what(many, here, state, message):
    log, _, desk = state
    t = message[1]
    if t in heard(log):
        return (state, told(many, here, heard(log)[t]))
    if t in [entry[0] for entry in desk]:
        return (state, ())
    return decided(many, here, state, ("dropped", t))


def restarted(state):
    log, _, desk = state
    log += refuse_rows(log, active(log))
    return (log, len(log), desk)
