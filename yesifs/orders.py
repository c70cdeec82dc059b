"""The orders to a store: when each of them is possible, and what it does.

Of a store these functions need what its class says: many, sites, down, mail and begun.
"""

from yesifs.checks import is_number, is_transaction
from yesifs.desks import decide, force, leader_among, receive, refuse, restart, site_with, target_of, write_all
from yesifs.logs import is_operation, next_do_row, restarting, write
from yesifs.moments import is_active, is_free
from yesifs.sending import is_among, is_sendable

SIZES = {"start": 2, "do": 4, "ask": 2, "give": 2, "refuse": 3, "force": 2, "deliver": 2, "wonder": 2, "fall": 3,
         "up": 2, "amid": 3}


def is_running(store, thing):
    """Whether thing is the number of a site that is up."""
    return is_among(store.many, thing) and thing not in store.down


def is_down(store, thing):
    """Whether thing is the number of a site that is down."""
    return is_among(store.many, thing) and thing in store.down


def led_by(store, t):
    """The site that leads t."""
    return store.sites[leader_among(store.many, t)]


def has_running_leader(store, thing):
    """Whether thing is a transaction whose leader is up."""
    return is_transaction(thing) and is_running(store, leader_among(store.many, thing))


def has_entry(store, thing):
    """Whether thing is a transaction of which its leader is up and has an entry."""
    return has_running_leader(store, thing) and thing in led_by(store, thing).desk


def has_open_entry(store, thing):
    """Whether thing is a transaction of which its leader is up and has an entry that is not asked."""
    return has_entry(store, thing) and not led_by(store, thing).desk[thing][3]


def may_start(store, order):
    """Whether a transaction can be started."""
    return has_running_leader(store, order[1]) and order[1] not in store.begun


def may_do(store, order):
    """Whether a transaction can perform an operation at a site."""
    _, t, s, operation = order
    if not has_open_entry(store, t) or not is_running(store, s) or not is_operation(operation):
        return False
    return is_free(store.sites[s].book.moment, t)


def may_ask(store, order):
    """Whether the votes for a transaction can be asked for."""
    return has_open_entry(store, order[1])


def may_give(store, order):
    """Whether a transaction can be given up."""
    return has_entry(store, order[1])


def may_refuse(store, order):
    """Whether a site can refuse a transaction."""
    _, t, s = order
    return is_transaction(t) and is_running(store, s) and is_active(store.sites[s].book.moment, t)


def may_force(store, order):
    """Whether a site can force its rows."""
    return is_running(store, order[1])


def may_deliver(store, order):
    """Whether a message can be delivered."""
    message = order[1]
    # True and 1 are equal, so what is no message may be equal to one that was sent.
    if not is_sendable(store.many, message) or message not in store.mail:
        return False
    return is_running(store, target_of(store.many, message))


def may_wonder(store, order):
    """Whether somebody can ask what became of a transaction."""
    return is_transaction(order[1]) and order[1] in store.begun


def may_fall(store, order):
    """Whether a site can fall and leave so many rows."""
    _, s, rows = order
    if not is_running(store, s) or not is_number(rows):
        return False
    return store.sites[s].forced <= rows <= len(store.sites[s].book.rows)


def may_rise(store, order):
    """Whether a site can come up."""
    return is_down(store, order[1])


def may_break(store, order):
    """Whether a restart can be cut off after so many rows."""
    _, s, k = order
    return is_down(store, s) and is_number(k) and 0 <= k <= len(restarting(store.sites[s].book))


CHECKS = {"start": may_start, "do": may_do, "ask": may_ask, "give": may_give, "refuse": may_refuse,
          "force": may_force, "deliver": may_deliver, "wonder": may_wonder, "fall": may_fall, "up": may_rise,
          "amid": may_break}


def is_possible_order(store, thing):
    """Whether thing is an order that is possible now."""
    if not isinstance(thing, tuple) or not thing or not isinstance(thing[0], str):
        return False
    if len(thing) != SIZES.get(thing[0]):
        return False
    check = CHECKS[thing[0]]
    return check(store, thing)


def send(store, messages):
    """Send messages; to send one again changes nothing."""
    for message in messages:
        store.mail[message] = True


def carry_start(store, order):
    """Give the leader an entry of a transaction."""
    t = order[1]
    store.begun[t] = True
    led_by(store, t).desk[t] = (t, (), (), False)


def count_step(site, t, s):
    """Let the count of a site grow by 1 in the entry of t."""
    _, counts, votes, is_asked = site.desk[t]
    numbers = dict(counts)
    numbers[s] = numbers.get(s, 0) + 1
    site.desk[t] = (t, tuple(sorted(numbers.items())), votes, is_asked)


def carry_do(store, order):
    """Write a step; the result is the value of the key before it."""
    _, t, s, operation = order
    row = next_do_row(store.sites[s].book, t, operation)
    write(store.sites[s].book, row)
    count_step(led_by(store, t), t, s)
    return row[3]


def carry_ask(store, order):
    """Ask each site with steps for its vote; without any, the transaction is dropped."""
    t = order[1]
    site = led_by(store, t)
    counts = site.desk[t][1]
    if counts:
        site.desk[t] = (t, counts, (), True)
        send(store, [("ask", t, s, count) for s, count in counts])
    else:
        carry_give(store, order)


def carry_give(store, order):
    """Let the leader decide that a transaction is dropped."""
    t = order[1]
    send(store, decide(led_by(store, t), ("dropped", t)))


def carry_refuse(store, order):
    """Let a site refuse a transaction."""
    _, t, s = order
    refuse(store.sites[s], [t])


def carry_force(store, order):
    """Force the rows of a site."""
    force(store.sites[order[1]])


def carry_deliver(store, order):
    """Let a site receive a message."""
    message = order[1]
    send(store, receive(store.sites[target_of(store.many, message)], message))


def carry_wonder(store, order):
    """Ask the leader what became of a transaction."""
    send(store, [("what", order[1])])


def carry_fall(store, order):
    """Let a site fall and leave so many rows."""
    _, s, rows = order
    site = store.sites[s]
    store.sites[s] = site_with(store.many, s, (site.book.rows[:rows], site.forced, ()))
    store.down[s] = True


def carry_up(store, order):
    """Let a site restart and come up."""
    restart(store.sites[order[1]])
    store.down.pop(order[1])


def carry_amid(store, order):
    """Let a site write the first rows of a restart, and stay down."""
    _, s, k = order
    write_all(store.sites[s], restarting(store.sites[s].book)[:k])


CARRIERS = {"start": carry_start, "do": carry_do, "ask": carry_ask, "give": carry_give, "refuse": carry_refuse,
            "force": carry_force, "deliver": carry_deliver, "wonder": carry_wonder, "fall": carry_fall,
            "up": carry_up, "amid": carry_amid}


def carry_out(store, order):
    """Carry out a possible order; the result is the value of the key before the step for "do", otherwise None."""
    carry = CARRIERS[order[0]]
    return carry(store, order)
