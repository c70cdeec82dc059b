"""Random logs, states and messages for tests, made of rows that the reference holds to be possible."""

from tests import reference
from tests import reference_logs as logs
from tests import reference_sites as sites

KEYS = ("x", "y")
WORDS = ("do", "do", "do", "yes", "yes", "no", "hear", "back", "back")


def random_operation(random, keys=KEYS):
    key = random.choice(keys)
    return random.choice([("get", key), ("set", key, random.randint(-3, 3)), ("add", key, random.randint(-3, 3))])


def do_row(random, log, t, keys=KEYS):
    operation = random_operation(random, keys)
    return ("do", t, operation, logs.amounts(log).get(operation[1], 0))


def random_subset(random, items):
    return tuple([item for item in items if random.random() < 0.4])


def random_fact(random, log, many):
    """A fact, often one that fits the vote of its transaction."""
    t = random.randint(1, many)
    if random.random() < 0.3:
        return ("dropped", t)
    some = sites.yes_votes(logs.events(log)).get(t, ())
    others = [u for u in range(1, many + 1) if u != t]
    more = random_subset(random, others) if random.random() < 0.4 else ()
    return ("firm", t, tuple(sorted(set(some + more))))


def random_row(random, log, many, keys=KEYS, words=WORDS):
    """A random row, perhaps not a possible one."""
    t = random.randint(1, many)
    word = random.choice(words)
    if word == "do":
        return do_row(random, log, t, keys)
    if word == "yes":
        return ("yes", t, sites.full(logs.table(log), logs.events(log), t))
    if word == "no":
        return ("no", t)
    if word == "hear":
        return ("hear", random_fact(random, log, many))
    steps = [("back", log[i][1], i) for i in logs.left(log)]
    return random.choice(steps) if steps else ("no", t)


def random_rows(random, log, many, keys=KEYS, words=WORDS):
    """Rows that can follow: a single one, or those of refusing; perhaps none."""
    if random.random() < 0.1 and "no" in words:
        return logs.refuse_rows(log, random_subset(random, logs.active(log)))
    row = random_row(random, log, many, keys, words)
    return (row,) if logs.is_next(log, row) else ()


def random_log(random, size, many, keys=KEYS, words=WORDS):
    """A random log of about this size; it is shorter if nothing more could be written."""
    log = ()
    for _ in range(4 * size):
        if len(log) < size:
            log += random_rows(random, log, many, keys, words)
    return log


def all_rows(log, many):
    """Candidates for a next row: each vote, each fact of few conditions, each compensation, and some steps."""
    found = [("do", t, operation, before) for t in range(1, many + 1)
             for operation in (("get", "x"), ("set", "x", 2), ("add", "y", -1), ("add", "z", 1))
             for before in {0, logs.amounts(log).get(operation[1], 0)}]
    for t in range(1, many + 1):
        parts = reference.subsets([u for u in range(1, many + 1) if u != t])
        found += [("yes", t, part) for part in parts] + [("no", t), ("hear", ("dropped", t))]
        found += [("hear", ("firm", t, part)) for part in parts]
        found += [("back", t, i) for i in range(len(log) + 1)]
    return found + [("fall",)]


def random_entry(random, many, t, transactions):
    counts = tuple([(s, random.randint(1, 2)) for s in random_subset(random, range(many))])
    others = [u for u in range(1, transactions + 1) if u != t]
    votes = tuple([(s, random_subset(random, others)) for s, _ in counts if random.random() < 0.5])
    is_asked = random.random() < 0.8
    return (t, counts, votes if is_asked else (), is_asked)


def random_state(random, many, here, size, transactions):
    log = random_log(random, random.randint(0, size), transactions)
    led = [t for t in range(1, transactions + 1) if t % many == here and t not in logs.heard(log)]
    desk = tuple([random_entry(random, many, t, transactions) for t in led if random.random() < 0.7])
    return (log, random.randint(0, len(log)), desk)


def random_message(random, many, log, transactions):
    """A random message, perhaps for another site."""
    t, s = random.randint(1, transactions), random.randrange(many)
    votes = sites.yes_votes(logs.events(log))
    others = random_subset(random, [u for u in range(1, transactions + 1) if u != t])
    return random.choice([
        ("ask", t, s, random.randint(1, 3)), ("ask", t, s, max(1, len([row for row in log if row[:2] == ("do", t)]))),
        ("vote", t, s, None), ("vote", t, s, others), ("vote", t, s, votes.get(t, ())),
        ("tell", random_fact(random, log, transactions), s), ("what", t)])
