"""A working store: sites with logs and desks, the messages between them, falls and restarts."""

from yesifs.desks import Site, site_with, state_at
from yesifs.errors import BadOrder
from yesifs.orders import carry_out, is_possible_order
from yesifs.sending import check_here, check_many


class Store:
    """A store with many sites.

    sites has them in the order of their numbers. down has True for those that are down, mail for the messages
    that were sent, and begun for the transactions that were started.
    """

    def __init__(self, many):
        check_many(many)
        self.many = many
        self.sites = [Site(many, s) for s in range(many)]
        self.down = {}
        self.mail = {}
        self.begun = {}

    def do(self, order):
        """Carry out an order; the result is the value of the key before the step for "do", otherwise None."""
        if not is_possible_order(self, order):
            raise BadOrder(order)
        return carry_out(self, order)

    def is_possible(self, thing):
        """Whether thing is an order that is possible now."""
        return is_possible_order(self, thing)

    def state(self, site):
        """The state of the site with this number."""
        check_here(self.many, site)
        return state_at(self.sites[site])

    def is_up(self, site):
        """Whether the site with this number is up."""
        check_here(self.many, site)
        return site not in self.down

    def sent(self):
        """The ascending tuple of the messages that were sent."""
        return tuple(sorted(self.mail))

    def started(self):
        """The ascending tuple of the transactions that were started."""
        return tuple(sorted(self.begun))

    def facts(self):
        """The facts of all logs."""
        heard = {t: fact for site in self.sites for t, fact in site.book.moment.heard.items()}
        return tuple([heard[t] for t in sorted(heard)])

    def close(self):
        """End all transactions, so that all sites hear all facts."""
        give_up_all(self)
        is_changed = True
        while is_changed:
            is_changed = deliver_all(self)

    def copied(self):
        """An equal store that goes its own way."""
        other = Store(self.many)
        other.sites = [site_with(self.many, site.here, state_at(site)) for site in self.sites]
        other.down = dict(self.down)
        other.mail = {message: True for message in self.mail}
        other.begun = dict(self.begun)
        return other

    def __eq__(self, other):
        return isinstance(other, Store) and picture(self) == picture(other)


def states_of(store):
    """The list of the states of all sites."""
    return [state_at(site) for site in store.sites]


def picture(store):
    """All by which two stores can differ."""
    return (states_of(store), store.down, store.mail, store.begun)


def give_up_all(store):
    """Let all sites come up, give up what is on the desks, and ask what became of each transaction."""
    for s in sorted(store.down):
        carry_out(store, ("up", s))
    for site in store.sites:
        for t in sorted(site.desk):
            carry_out(store, ("give", t))
    for t in sorted(store.begun):
        carry_out(store, ("wonder", t))


def deliver_all(store):
    """Deliver all messages that were sent; the result is whether that changes a state or sends a new message."""
    states, many = states_of(store), len(store.mail)
    for message in sorted(store.mail):
        carry_out(store, ("deliver", message))
    return len(store.mail) > many or states_of(store) != states
