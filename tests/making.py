"""Random tables, histories and runs for tests, made of events that the reference holds to be possible."""

from functools import lru_cache

from tests import reference
from tests import reference_runs as runs
from tests import reference_sites as sites

WORDS = ("do", "yes", "no", "hear", "back", "fall")
MIXED = (8, 4, 1, 3, 2, 1)
VOTES = (3, 8, 0.3, 6, 1, 0.3)


@lru_cache(None)
def pool(kinds, many, positions):
    """For each word all events of so many transactions with these kinds and so many positions."""
    found = {word: [] for word in WORDS}
    found["fall"].append(("fall",))
    for t in range(1, many + 1):
        parts = reference.subsets([u for u in range(1, many + 1) if u != t])
        found["do"] += [("do", t, kind) for kind in kinds]
        found["yes"] += [("yes", t, part) for part in parts]
        found["no"].append(("no", t))
        found["hear"] += [("hear", ("dropped", t))] + [("hear", ("firm", t, part)) for part in parts]
        found["back"] += [("back", t, i) for i in range(positions)]
    return found


def all_events(kinds, many, positions):
    return [event for some in pool(kinds, many, positions).values() for event in some]


def random_event(random, table, events, many, weights=MIXED):
    """A random possible event; the weights are those of the words."""
    left = {word: weight for word, weight in zip(WORDS, weights)}
    while True:
        word = random.choices(list(left), list(left.values()))[0]
        some = pool(table[0], many, len(events))[word]
        for event in random.sample(some, len(some)):
            if sites.is_event(table, events, event):
                return event
        del left[word]


def sound_event(random, table, events, many, weights=MIXED):
    """A random possible event that is no fault."""
    while True:
        event = random_event(random, table, events, many, weights)
        if not sites.faults(table, events, event):
            return event


def random_history(random, table, size, many, weights=MIXED, choose=random_event):
    events = ()
    for _ in range(size):
        events += (choose(random, table, events, many, weights),)
    return events


def voted_history(random, table, size, many):
    """A history with steps before everything else."""
    steps = tuple([("do", random.randint(1, many), random.choice(table[0])) for _ in range(size // 2)])
    events = steps
    while len(events) < size:
        choose = random.choice([random_event, sound_event])
        events += (choose(random, table, events, many, VOTES),)
    return events


def random_table(random):
    kinds = ("a", "b")[:random.randint(1, 2)]
    pairs = [(one, other) for one in kinds for other in kinds if one <= other]
    return (kinds, tuple([pair for pair in pairs if random.random() < 0.7]))


def told_event(random, run, s, many):
    """A fact that can be heard in the run at this site, because all have voted or another site has heard it."""
    facts = list(runs.facts(run))
    for t in range(1, many + 1):
        conditions = runs.all_conditions(run, t)
        if conditions is not None:
            facts.append(("firm", t, conditions))
    events = [("hear", fact) for fact in facts if sites.is_event(((), ()), runs.history(run, s), ("hear", fact))]
    return random.choice(events) if events else None


def random_run(random, table, size, many, over, choose=random_event, weights=VOTES):
    """A random run over so many sites."""
    run = ()
    while len(run) < size:
        s = random.randrange(over)
        event = told_event(random, run, s, many) if random.random() < 0.3 else None
        event = event or choose(random, table, runs.history(run, s), many, weights)
        if runs.is_timely_run(run + ((s, event),)):
            run += ((s, event),)
    return run
