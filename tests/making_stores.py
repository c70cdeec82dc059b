"""Random orders for tests, possible ones and others."""

from tests.making_logs import random_operation

WORDS = {"start": 3, "do": 20, "ask": 3, "give": 0.3, "refuse": 0.4, "force": 0.7, "deliver": 12, "wonder": 0.4,
         "fall": 0.7, "up": 3, "amid": 1}
CALM = {**WORDS, "give": 0.1, "refuse": 0.1, "fall": 0.1, "wonder": 0.1}


def random_message(random, store):
    """A message that was sent, often one on which something depends; None if there is none."""
    sent, decided = store.sent(), [fact[1] for fact in store.facts()]
    fresh = [message for message in sent if message[0] in ("ask", "vote") and message[1] not in decided]
    some = fresh if fresh and random.random() < 0.7 else sent
    return random.choice(some) if some else None


def random_order(random, store, transactions=5, keys=("x", "y"), words=WORDS):
    """A random order to a store, perhaps not a possible one."""
    word = random.choices(list(words), list(words.values()))[0]
    t, s = random.randrange(transactions), random.randrange(store.many)
    if word in ("start", "ask", "give", "wonder"):
        return (word, t)
    if word == "do":
        return ("do", t, s, random_operation(random, keys))
    if word == "refuse":
        return ("refuse", t, s)
    if word in ("force", "up"):
        return (word, s)
    if word == "deliver":
        return ("deliver", random_message(random, store) or ("what", t))
    log, forced, _ = store.state(s)
    return (word, s, random.randint(forced, len(log)) if word == "fall" else random.randint(0, 4))


def possible_order(random, store, transactions=5, keys=("x", "y"), words=WORDS):
    """A random possible order; None if none was found."""
    for _ in range(40):
        order = random_order(random, store, transactions, keys, words)
        if store.is_possible(order):
            return order
    return None


def lead(random, store, size, transactions=5, keys=("x", "y"), words=WORDS):
    """Give random orders to a store; the result is the list of them."""
    orders = []
    for _ in range(size):
        order = possible_order(random, store, transactions, keys, words)
        if order is not None and (order[0] != "do" or [one[0] for one in orders].count("do") < 30):
            store.do(order)
            orders.append(order)
    return orders
