"""The table and the run of a store, and its serial orders (part 12)."""

import unittest
from itertools import permutations
from random import Random

from tests import making_stores as making
from tests import promises
from tests import reference
from tests import reference_runs as runs
from tests import reference_stores as models
from tests.cases import Raising
from tests.test_logs import ADD, GET, OTHER, SET
from tests.test_stores import ASKED, DONE, FIRM, STARTED, VOTED, after
from tests.things import altered, plain_things
from yesifs.benches import Bench
from yesifs.errors import BadStore
from yesifs.logs import key_table
from yesifs.runs import is_run
from yesifs.stores import Store
from yesifs.views import order_holds, serial_order, store_run, store_table

# The leader, site 0, hears that 2 is firm before site 1 has written that it votes for 1.
BOTH = (("start", 1), ("start", 2), ("do", 1, 0, ADD), ("do", 2, 0, GET), ("do", 1, 1, OTHER), ("ask", 1), ("ask", 2),
        ("deliver", ("ask", 1, 0, 1)), ("deliver", ("ask", 2, 0, 1)), ("deliver", ("vote", 2, 0, (1,))),
        ("deliver", ("ask", 1, 1, 1)), ("deliver", ("vote", 1, 0, ())), ("deliver", ("vote", 1, 1, ())),
        ("deliver", ("tell", ("firm", 1, ()), 0)))


class Tables(Raising):
    def check(self, store, *keys):
        self.assertEqual(store_table(store), key_table(keys))
        self.assertEqual(store_table(store=store), key_table(keys))

    def test_the_keys_of_all_logs(self):
        self.check(Store(1))
        self.check(after(*STARTED))
        self.check(after(*DONE), "x", "y")
        self.check(after(*DONE, ("do", 1, 1, ("get", "a"))), "a", "x", "y")
        # Steps that are taken back stay in the log; rows that a fall loses do not.
        self.check(after(*DONE, ("refuse", 2, 1)), "x", "y")
        self.check(after(*DONE, ("fall", 1, 0)), "x")
        self.check(after(*DONE, ("fall", 1, 0), ("fall", 0, 0)))


class Runs(Raising):
    def check(self, store):
        logs = promises.logs_of(store)
        self.assertEqual(store_run(store), models.run(logs))
        self.assertEqual(store_run(store=store), models.run(logs))
        self.assertEqual(store_table(store), models.table(logs))
        self.assertIs(is_run(store_table(store), store_run(store)), True)

    def test_site_after_site(self):
        store = after(*DONE)
        self.assertEqual(store_run(store), ((0, ("do", 1, "ax")), (0, ("do", 2, "gx")), (1, ("do", 2, "sy")),
                                            (1, ("do", 4, "gy"))))
        self.check(store)
        self.assertEqual(store_run(Store(3)), ())

    def test_a_firm_fact_waits_for_the_votes(self):
        store = after(*FIRM)
        self.assertEqual(store.state(0)[0][2:], (("yes", 2, (1,)), ("hear", ("firm", 2, (1,)))))
        # The fact that site 0 has heard waits for the vote of site 1.
        self.assertEqual(store_run(store), (
            (0, ("do", 1, "ax")), (0, ("do", 2, "gx")), (0, ("yes", 2, (1,))), (1, ("do", 2, "sy")),
            (1, ("do", 4, "gy")), (1, ("yes", 2, ())), (0, ("hear", ("firm", 2, (1,))))))
        self.check(store)

    def test_a_dropped_fact_does_not_wait(self):
        store = after(*VOTED, ("give", 2))
        self.assertLess(store_run(store).index((0, ("hear", ("dropped", 2)))),
                        store_run(store).index((1, ("yes", 2, ()))))
        self.check(store)

    def test_the_least_site_goes_on_as_soon_as_it_can(self):
        store = after(*BOTH)
        run = store_run(store)
        # Behind the vote of site 1 the run goes back to site 0 at once.
        at = run.index((1, ("yes", 1, ())))
        self.assertEqual(run[at + 1:], ((0, ("hear", ("firm", 1, ()))), (1, ("hear", ("firm", 1, ())))))
        self.check(store)

    def test_random_stores(self):
        random = Random(121)
        for n in range(200):
            store = Store(random.randint(1, 4))
            making.lead(random, store, random.randint(1, 90), 5)
            self.check(store)
            store.close()
            self.check(store)

    def test_nothing_changes(self):
        store = after(*FIRM)
        for call in (store_table, store_run, serial_order, lambda one: order_holds(one, ())):
            call(store)
            self.assertEqual(store, after(*FIRM))


class Orders(Raising):
    def orders(self, store):
        """All tuples that are orders of certificates for the run, as the reference of runs says."""
        table, run = store_table(store), store_run(store)
        owners = {fact[1] for fact in store.facts()}
        named = {fact[1] for completion in runs.completions(run) for fact in completion}
        completion = tuple(sorted(store.facts() + tuple([("dropped", t) for t in named - owners]),
                                  key=lambda fact: fact[1]))
        self.assertIn(completion, runs.completions(run))
        return [order for order in permutations(sorted(reference.kept(completion)))
                if runs.holds(table, run, completion, ("serial", order))]

    def check(self, store):
        right = self.orders(store)
        self.assertIn(serial_order(store), right)
        self.assertEqual(serial_order(store=store), serial_order(store))
        kept = reference.kept(store.facts())
        for order in permutations(sorted(kept)):
            self.assertIs(order_holds(store, order), order in right)
            self.assertIs(order_holds(thing=order, store=store), order in right)
        return right

    def test_orders(self):
        self.assertEqual(self.check(Store(2)), [()])
        self.assertEqual(self.check(after(*FIRM)), [()])
        store = after(*BOTH)
        self.assertEqual(store.facts(), (("firm", 1, ()), ("firm", 2, (1,))))
        self.assertEqual(self.check(store), [(1, 2)])

    def test_wrong_orders(self):
        store = after(*BOTH)
        for thing in [(2, 1), (1,), (2,), (), (1, 2, 3), (1, 2, 2), (1, 1), (True, 2), [1, 2], "12", None, ((1, 2),),
                      ("serial", (1, 2)), *plain_things(), *altered((1, 2))]:
            expected = repr(thing) == "(1, 2)"
            self.assertIs(order_holds(store, thing), expected, thing)
        for thing in plain_things():
            self.assertIs(order_holds(Store(2), thing), thing == (), thing)

    def test_several_orders(self):
        store = after(("start", 1), ("start", 2), ("do", 1, 0, ADD), ("do", 2, 0, ADD), ("ask", 1), ("ask", 2),
                      ("deliver", ("ask", 1, 0, 1)), ("deliver", ("ask", 2, 0, 1)), ("deliver", ("vote", 1, 0, ())),
                      ("deliver", ("vote", 2, 0, ())))
        self.assertEqual(self.check(store), [(1, 2), (2, 1)])

    def test_random_stores(self):
        random = Random(122)
        many = 0
        for n in range(150):
            store = Store(random.randint(1, 3))
            making.lead(random, store, random.randint(20, 90), 4, words=making.CALM)
            many += len(self.check(store)[0]) > 1
            store.close()
            self.check(store)
        self.assertGreater(many, 15)

    def test_stores_of_all_kinds(self):
        for orders in ((), STARTED, DONE, ASKED, VOTED, FIRM, BOTH, FIRM + (("fall", 0, 4), ("fall", 1, 3)),
                       DONE + (("fall", 0, 2), ("amid", 0, 1))):
            promises.look_at_all(self, after(*orders))


class WrongInputs(Raising):
    def test_stores(self):
        for thing in plain_things() + [Bench(2), (Store(2),), [Store(2)], Store, (3, ((1, 0, 2),)), SET]:
            self.raises(BadStore, thing, lambda: store_table(thing), lambda: store_run(thing),
                        lambda: serial_order(thing), lambda: order_holds(thing, ()), lambda: order_holds(thing, None),
                        lambda: store_table(store=thing), lambda: order_holds(thing=(), store=thing))


if __name__ == "__main__":
    unittest.main()
