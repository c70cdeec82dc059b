"""A bench: a store with the orders that led to it, to be undone and redone, and written as a text."""

from yesifs.errors import BadOrders, BadText
from yesifs.lines import line_of, order_in
from yesifs.sending import check_many
from yesifs.stores import Store


def store_from(many, orders):
    """The store to which the orders lead."""
    store = Store(many)
    for order in orders:
        store.do(order)
    return store


class Bench:
    """A store with many sites, the list of the orders that were done, and of those that were undone."""

    def __init__(self, many):
        self.present = Store(many)
        self.done = []
        self.undone = []

    def do(self, order):
        """Carry out an order; the result is that of the store."""
        before = self.present.do(order)
        self.done.append(order)
        self.undone.clear()
        return before

    def undo(self):
        """Take the last order back; the result is whether there was one."""
        if not self.done:
            return False
        self.undone.append(self.done.pop())
        self.present = store_from(self.present.many, self.done)
        return True

    def redo(self):
        """Carry out the last order again that was undone; the result is whether there was one."""
        if not self.undone:
            return False
        order = self.undone.pop()
        self.present.do(order)
        self.done.append(order)
        return True

    def store(self):
        """A copy of the store."""
        return self.present.copied()

    def orders(self):
        """The tuple of the orders that were done."""
        return tuple(self.done)

    def text(self):
        """The text of the orders that were done."""
        return "\n".join([f"sites {self.present.many}"] + [line_of(order) for order in self.done])


def store_after(many, orders):
    """The store with many sites to which the orders lead."""
    check_many(many)
    if not isinstance(orders, tuple):
        raise BadOrders(orders)
    return store_from(many, orders)


def first_in(line):
    """The number of sites that the first line of a text states."""
    for many in range(1, 5):
        if line == f"sites {many}":
            return many
    raise BadText(1)


def read_text(text):
    """The number of sites and the tuple of the orders of a text."""
    if not isinstance(text, str):
        raise BadText(0)
    lines = text.split("\n")
    store = Store(first_in(lines[0]))
    orders = []
    for at, line in enumerate(lines[1:], 2):
        order = order_in(line)
        if not store.is_possible(order) or line_of(order) != line:
            raise BadText(at)
        store.do(order)
        orders.append(order)
    return (store.many, tuple(orders))
