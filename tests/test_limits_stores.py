"""Inputs at the limits of parts 10 to 13: the answers are right, and each call ends within a few seconds."""

import unittest
from random import Random

from tests import making_stores as making
from tests import promises
from tests.test_limits import Case
from yesifs import benches, cascades, runs, views
from yesifs.stores import Store

KEYS = ("a", "bb", "abcdefghi", "z")
ADDS = tuple([("add", key, 10 ** 6) for key in KEYS])


def busy_orders(random, rounds, operations=None, share=0.9):
    """Eight transactions with 30 steps at four sites; all are asked for, and most messages are delivered."""
    store, orders = Store(4), []
    for order in [("start", t) for t in range(8)] + [
            ("do", i % 8, random.randrange(4), random.choice(operations or [making.random_operation(random, KEYS)]))
            for i in range(30)] + [("ask", t) for t in range(8)]:
        store.do(order)
        orders.append(order)
    for _ in range(rounds):
        for message in store.sent():
            if random.random() < share:
                store.do(("deliver", message))
                orders.append(("deliver", message))
    return tuple(orders)


def falling_orders(random):
    """The same, and then all sites fall and come up, again and again."""
    orders = busy_orders(random, 1)
    store = benches.store_after(4, orders)
    for n in range(40):
        s = n % 4
        log, forced, _ = store.state(s)
        for order in (("fall", s, random.randint(forced, len(log))), ("amid", s, 0), ("amid", s, 1), ("up", s)):
            if store.is_possible(order):
                store.do(order)
                orders += (order,)
    return orders


class Stores(Case):
    def check(self, orders):
        store = self.timed(benches.store_after, 4, orders)
        for order in orders[-3:]:
            self.timed(store.is_possible, order)
        closed = self.timed(store.copied)
        self.timed(closed.close)
        self.assertIs(self.timed(store.__eq__, closed), False)
        promises.look_at_end(self, closed)
        for one in (store, closed):
            promises.look_at(self, one)
            table, run = self.timed(views.store_table, one), self.timed(views.store_run, one)
            self.assertIs(self.timed(runs.is_run, table, run), True)
            self.assertIs(self.timed(runs.are_sites_right, table, run), True)
            self.assertIs(self.timed(runs.is_right_run, table, run), True)
            self.assertIs(self.timed(views.order_holds, one, self.timed(views.serial_order, one)), True)
        return closed

    def test_busy_stores(self):
        random = Random(141)
        for rounds in (0, 1, 2, 3, 4, 4, 4):
            self.check(busy_orders(random, rounds))

    def test_adds_alone(self):
        closed = self.check(busy_orders(Random(142), 4, ADDS, 1))
        self.assertEqual(closed.facts(), tuple([("firm", t, ()) for t in range(8)]))
        amounts = [pair[1] for s in range(4) for pair in promises.values(closed.state(s)[0])]
        self.assertEqual(sum(amounts), 30 * 10 ** 6)

    def test_falling_stores(self):
        for n in range(3):
            self.check(falling_orders(Random(143 + n)))

    def test_one_site(self):
        orders = [("start", t) for t in range(8)]
        orders += [("do", i * 8 // 30, 0, (("set", KEYS[i % 4], i) if i % 3 else ("get", KEYS[i % 4]))) for i in range(30)]
        orders += [("ask", t) for t in range(8)]
        store = self.timed(benches.store_after, 1, tuple(orders))
        for _ in range(2):
            for message in store.sent():
                self.timed(store.do, ("deliver", message))
        self.assertEqual([fact[0] for fact in store.facts()], ["firm"] * 8)
        self.assertEqual(self.timed(views.serial_order, store), tuple(range(8)))
        promises.look_at_all(self, store)


class Benches(Case):
    def test_many_orders(self):
        orders = busy_orders(Random(144), 4)
        bench = benches.Bench(4)
        for order in orders:
            self.timed(bench.do, order)
        text = self.timed(bench.text)
        self.assertEqual(self.timed(benches.read_text, text), (4, orders))
        for _ in range(5):
            self.timed(bench.undo)
        self.assertEqual(self.timed(bench.store), benches.store_after(4, orders[:-5]))
        for _ in range(5):
            self.timed(bench.redo)
        self.assertEqual(bench.store(), benches.store_after(4, orders))


class Cascades(Case):
    def test_seven_operations(self):
        random = Random(146)
        for sizes in ((2, 2, 2, 1), (4, 1, 1, 1), (1, 2, 2, 2), (7,), (3, 4)):
            for _ in range(2):
                script = tuple([(t, tuple([making.random_operation(random) for _ in range(size)]))
                                for t, size in enumerate(sizes)])
                for t in range(len(sizes)):
                    found, cost, order = self.timed(cascades.greatest_cascade, script, t)
                    log = self.timed(cascades.log_of, script, order)
                    self.assertEqual(self.timed(cascades.cascade, log, t), (found, cost))
                    self.timed(cascades.waits, script, order)

    def test_answers(self):
        # Everything builds on everything that comes before.
        script = tuple([(t, (("set", "x", t), ("get", "x"))[:2 if t else 1]) for t in range(4)])
        self.assertEqual(cascades.greatest_cascade(script, 3)[:2], ((0, 1, 2, 3), 7))
        self.assertEqual(cascades.greatest_cascade(script, 0), ((0, 1, 2, 3), 7, (0, 1, 1, 2, 2, 3, 3)))


if __name__ == "__main__":
    unittest.main()
