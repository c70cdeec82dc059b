"""Stores, orders, closing, copies and equality (part 10)."""

import unittest
from random import Random

from tests import making_stores as making
from tests import promises
from tests import reference_stores as models
from tests.cases import Raising
from tests.test_logs import ADD, GET, NO_OPERATIONS, OTHER, SET
from tests.test_sending import NO_MANY, NO_SITES
from tests.things import altered, plain_things
from yesifs.errors import BadMany, BadOrder, BadSite
from yesifs.logs import is_log
from yesifs.stores import Store

NO_TRANSACTIONS = [-1, True, False, None, "1", (1,), [1], {}, "", 1.5]
NO_NUMBERS = [-1, True, False, None, "0", (0,), [0], {}]
# Orders for two sites: 1 and 2 meet at site 0, and 2 and 4 at site 1.
STARTED = (("start", 1), ("start", 2), ("start", 4))
DONE = STARTED + (("do", 1, 0, ADD), ("do", 2, 0, GET), ("do", 2, 1, ("set", "y", 2)), ("do", 4, 1, ("get", "y")))
ASKED = DONE + (("ask", 2),)
VOTED = ASKED + (("deliver", ("ask", 2, 0, 1)), ("deliver", ("ask", 2, 1, 1)))
FIRM = VOTED + (("deliver", ("vote", 2, 0, (1,))), ("deliver", ("vote", 2, 1, ())))


def after(*orders, many=2):
    store = Store(many)
    for order in orders:
        store.do(order)
    return store


def seen(store):
    """All that a store shows."""
    return ([(store.state(s), store.is_up(s)) for s in range(store.many)], store.sent(), store.started(), store.facts())


def model_after(orders, many=2):
    model = models.Model(many)
    for order in orders:
        models.do(model, order)
    return model


class Case(Raising):
    def can(self, store, *orders):
        for order in orders:
            self.assertIs(store.is_possible(order), True, order)
            self.assertIs(store.is_possible(thing=order), True)

    def cannot(self, store, *orders):
        before = seen(store)
        for order in orders:
            self.assertIs(store.is_possible(order), False, order)
            self.assertIs(store.is_possible(thing=order), False)
            self.raises(BadOrder, order, lambda: store.do(order), lambda: store.do(order=order))
        self.assertEqual(seen(store), before)

    def does(self, orders, order, changes=(), sent=(), started=(), result=None, many=2):
        """What an order does: states of sites and sites that go up or down, new messages, started ones, its result."""
        store = after(*orders, many=many)
        expected = seen(store)
        for s, state in dict(changes).items():
            expected[0][s] = state
        self.assertEqual(store.do(order), result)
        messages = tuple(sorted(set(expected[1]) | set(sent)))
        facts = {row[1] for s in range(many) for row in store.state(s)[0] if row[0] == "hear"}
        self.assertEqual(seen(store), (expected[0], messages, tuple(sorted(expected[2] + started)),
                                       tuple(sorted(facts, key=lambda fact: fact[1]))))


class New(Case):
    def test_new_stores(self):
        for many in (1, 2, 3, 4):
            for store in (Store(many), Store(many=many)):
                self.assertEqual([store.state(s) for s in range(many)], [((), 0, ())] * many)
                self.assertEqual([store.is_up(site=s) for s in range(many)], [True] * many)
                self.assertEqual([store.sent(), store.started(), store.facts()], [(), (), ()])

    def test_wrong_numbers_of_sites(self):
        for thing in NO_MANY:
            self.raises(BadMany, thing, lambda: Store(thing), lambda: Store(many=thing))

    def test_wrong_sites(self):
        for store in (Store(2), after(*FIRM)):
            for thing in NO_SITES + [one for one in plain_things() if type(one) is not int or one not in (0, 1)]:
                self.raises(BadSite, thing, lambda: store.state(thing), lambda: store.is_up(thing),
                            lambda: store.state(site=thing), lambda: store.is_up(site=thing))
        self.raises(BadSite, 1, lambda: Store(1).state(1))
        self.assertEqual(Store(4).state(site=3), ((), 0, ()))


class Start(Case):
    def test_possible(self):
        self.can(Store(2), ("start", 0), ("start", 10 ** 39))
        self.can(after(*FIRM), ("start", 3), ("start", 0))
        self.cannot(after(*FIRM), ("start", 1), ("start", 2), ("start", 4))
        self.cannot(after(("start", 1), ("give", 1)), ("start", 1))
        self.cannot(Store(2), *[("start", t) for t in NO_TRANSACTIONS], ("start",), ("start", 1, 2), ["start", 1], "start")

    def test_a_leader_that_is_down(self):
        store = after(("fall", 1, 0))
        self.cannot(store, ("start", 1), ("start", 3))
        self.can(store, ("start", 0), ("start", 2))
        self.can(after(("fall", 1, 0), ("up", 1)), ("start", 1))

    def test_what_it_does(self):
        self.does((), ("start", 3), {1: (((), 0, ((3, (), (), False),)), True)}, started=(3,))
        self.does((("start", 3),), ("start", 1), {1: (((), 0, ((1, (), (), False), (3, (), (), False))), True)},
                  started=(1,))

    def test_never_again_after_a_fall(self):
        self.cannot(after(("start", 1), ("fall", 1, 0), ("up", 1)), ("start", 1))


class Do(Case):
    def test_possible(self):
        store = after(*DONE)
        self.can(store, ("do", 1, 0, GET), ("do", 1, 1, OTHER), ("do", 2, 0, SET), ("do", 4, 0, ("add", "zzz", 0)))
        self.cannot(store, ("do", 3, 0, GET), ("do", 0, 0, GET), ("do", 1, 2, GET), ("do", 1, -1, GET),
                    ("do", 1, 0), ("do", 1, 0, GET, 5), ("do", 1, 0, GET, ()), ("do", GET, 0, 1), ["do", 1, 0, GET])
        self.cannot(store, *[("do", t, 0, GET) for t in NO_TRANSACTIONS], *[("do", 1, s, GET) for s in NO_NUMBERS],
                    *[("do", 1, 0, thing) for thing in NO_OPERATIONS])
        self.cannot(Store(2), ("do", 1, 0, GET))

    def test_what_is_asked_performs_no_more(self):
        self.cannot(after(*ASKED), ("do", 2, 0, GET), ("do", 2, 1, GET))
        self.can(after(*ASKED), ("do", 1, 0, GET), ("do", 4, 1, GET))
        self.cannot(after(*FIRM), ("do", 2, 0, GET))
        self.cannot(after(("start", 1), ("ask", 1)), ("do", 1, 0, GET))

    def test_sites_that_are_down(self):
        store = after(*DONE, ("fall", 1, 1))
        # 1 is led by site 1, and its entry is lost for good; 2 and 4 are led by site 0.
        self.cannot(store, ("do", 1, 0, GET), ("do", 2, 1, GET))
        self.can(store, ("do", 2, 0, GET), ("do", 4, 0, GET))
        store.do(("up", 1))
        self.cannot(store, ("do", 1, 0, GET), ("do", 1, 1, GET))

    def test_a_transaction_that_cannot_perform_there(self):
        store = after(*DONE, ("refuse", 2, 0))
        self.cannot(store, ("do", 2, 0, GET))
        self.can(store, ("do", 2, 1, GET))
        # 4 is drawn along when 2 is refused at site 1; at site 0 it can go on.
        drawn = after(*DONE, ("refuse", 2, 1))
        self.cannot(drawn, ("do", 4, 1, GET), ("do", 2, 1, GET))
        self.can(drawn, ("do", 4, 0, GET))

    def test_what_it_does(self):
        self.does(STARTED, ("do", 1, 0, ADD), {0: (((("do", 1, ADD, 0),), 0, ((2, (), (), False), (4, (), (), False))), True),
                                               1: (((), 0, ((1, ((0, 1),), (), False),)), True)}, result=0)
        self.does(STARTED[:1] + (("do", 1, 1, SET),), ("do", 1, 1, ADD),
                  {1: (((("do", 1, SET, 0), ("do", 1, ADD, 7)), 0, ((1, ((1, 2),), (), False),)), True)}, result=7)
        self.does(STARTED[:1] + (("do", 1, 1, SET),), ("do", 1, 0, GET),
                  {0: (((("do", 1, GET, 0),), 0, ()), True),
                   1: (((("do", 1, SET, 0),), 0, ((1, ((0, 1), (1, 1)), (), False),)), True)}, result=0)

    def test_values_before(self):
        store = after(*STARTED)
        orders = [(ADD, 0), (ADD, 5), (GET, 10), (SET, 10), (GET, 7), (("add", "x", -9), 7), (GET, -2), (OTHER, 0)]
        self.assertEqual([store.do(order=("do", 1 + n % 2, 0, operation)) for n, (operation, _) in enumerate(orders)],
                         [before for _, before in orders])
        self.assertEqual(store.do(("do", 1, 1, GET)), 0)

    def test_nobody_waits(self):
        # Whatever others have done, and whether or not they have voted.
        for orders in (DONE, ASKED, VOTED, FIRM):
            store = after(*orders, ("start", 6))
            for s in (0, 1):
                for operation in (GET, SET, ADD, ("set", "y", 1)):
                    self.can(store, ("do", 6, s, operation))


class Ask(Case):
    def test_possible(self):
        self.can(after(*DONE), ("ask", 1), ("ask", 2), ("ask", 4))
        self.cannot(after(*DONE), ("ask", 3), ("ask", 1, 0), ("ask",), *[("ask", t) for t in NO_TRANSACTIONS])
        self.cannot(after(*ASKED), ("ask", 2))
        self.cannot(after(*FIRM), ("ask", 2))
        self.cannot(after(*DONE, ("fall", 0, 0)), ("ask", 2), ("ask", 4))
        self.cannot(after(*DONE, ("fall", 0, 0), ("up", 0)), ("ask", 2))

    def test_what_it_does(self):
        store = after(*DONE)
        log, desk = store.state(0)[0], store.state(0)[2]
        self.assertEqual(desk[0], (2, ((0, 1), (1, 1)), (), False))
        self.does(DONE, ("ask", 2), {0: ((log, 0, ((2, ((0, 1), (1, 1)), (), True),) + desk[1:]), True)},
                  (("ask", 2, 0, 1), ("ask", 2, 1, 1)))
        self.does(DONE + (("do", 1, 0, GET),), ("ask", 1),
                  {1: (store.state(1)[:2] + (((1, ((0, 2),), (), True),),), True)}, (("ask", 1, 0, 2),))

    def test_an_entry_without_counts(self):
        # It is dropped at once, and no longer on the desk.
        self.does((("start", 1),), ("ask", 1), {1: (((("hear", ("dropped", 1)),), 1, ()), True)},
                  (("tell", ("dropped", 1), 0),))
        self.does((("start", 0), ("start", 4)), ("ask", 4),
                  {0: (((("hear", ("dropped", 4)),), 1, ((0, (), (), False),)), True)},
                  [("tell", ("dropped", 4), s) for s in (1, 2, 3)], many=4)
        self.does((("start", 2),), ("ask", 2), {0: (((("hear", ("dropped", 2)),), 1, ()), True)}, many=1)


class Give(Case):
    def test_possible(self):
        for orders in (DONE, ASKED, VOTED):
            self.can(after(*orders), ("give", 1), ("give", 2), ("give", 4))
        self.can(after(("start", 1)), ("give", 1))
        self.cannot(after(*FIRM), ("give", 2), ("give", 3), ("give",), ("give", 1, 1),
                    *[("give", t) for t in NO_TRANSACTIONS])
        self.cannot(after(*DONE, ("give", 1)), ("give", 1))
        self.cannot(after(*DONE, ("fall", 1, 0)), ("give", 1))
        self.cannot(after(*DONE, ("fall", 1, 0), ("up", 1)), ("give", 1))

    def test_what_it_does(self):
        # 1 has no step at its leader.
        state = after(*DONE).state(1)
        self.does(DONE, ("give", 1), {1: ((state[0] + (("hear", ("dropped", 1)),), 3, ()), True)},
                  (("tell", ("dropped", 1), 0),))

    def test_it_refuses_an_active_transaction(self):
        state = after(*DONE).state(0)
        self.does(DONE, ("give", 2), {0: ((state[0] + (("no", 2), ("back", 2, 1), ("hear", ("dropped", 2))), 5,
                                          ((4, ((1, 1),), (), False),)), True)}, (("tell", ("dropped", 2), 1),))

    def test_a_voted_transaction(self):
        state = after(*VOTED).state(0)
        rows = state[0] + (("hear", ("dropped", 2)), ("back", 2, 1))
        self.does(VOTED, ("give", 2), {0: ((rows, 4, ((4, ((1, 1),), (), False),)), True)},
                  (("tell", ("dropped", 2), 1),))


class Refuse(Case):
    def test_possible(self):
        self.can(after(*DONE), ("refuse", 1, 0), ("refuse", 2, 0), ("refuse", 2, 1), ("refuse", 4, 1))
        self.cannot(after(*DONE), ("refuse", 1, 1), ("refuse", 4, 0), ("refuse", 3, 0), ("refuse", 2), ("refuse", 2, 0, 0),
                    *[("refuse", t, 0) for t in NO_TRANSACTIONS], *[("refuse", 2, s) for s in NO_NUMBERS], ("refuse", 2, 2))
        self.cannot(after(*VOTED), ("refuse", 2, 0), ("refuse", 2, 1))
        self.cannot(after(*DONE, ("refuse", 2, 0)), ("refuse", 2, 0))
        self.cannot(after(*DONE, ("fall", 0, 2)), ("refuse", 2, 0))
        # Whoever leads it, and whether or not it is asked.
        self.can(after(*ASKED, ("fall", 0, 0)), ("refuse", 2, 1))

    def test_what_it_does(self):
        state = after(*DONE).state(0)
        self.does(DONE, ("refuse", 1, 0),
                  {0: ((state[0] + (("no", 1), ("no", 2), ("back", 2, 1), ("back", 1, 0)), 0, state[2]), True)})
        self.does(DONE, ("refuse", 2, 0), {0: ((state[0] + (("no", 2), ("back", 2, 1)), 0, state[2]), True)})


class Force(Case):
    def test_possible(self):
        self.can(after(*DONE), ("force", 0), ("force", 1))
        self.cannot(after(*DONE), ("force", 2), ("force", -1), ("force",), ("force", 0, 0),
                    *[("force", s) for s in NO_NUMBERS])
        self.cannot(after(*DONE, ("fall", 0, 0)), ("force", 0))

    def test_what_it_does(self):
        state = after(*DONE).state(0)
        self.does(DONE, ("force", 0), {0: ((state[0], 2, state[2]), True)})
        self.does(DONE + (("force", 0),), ("force", 0))
        self.does((), ("force", 0))


class Deliver(Case):
    def test_possible(self):
        store = after(*ASKED)
        self.can(store, ("deliver", ("ask", 2, 0, 1)), ("deliver", ("ask", 2, 1, 1)))
        self.cannot(store, ("deliver", ("ask", 2, 0, 2)), ("deliver", ("ask", 1, 0, 1)), ("deliver", ("what", 1)),
                    ("deliver", ("vote", 2, 0, (1,))), ("deliver", ("tell", ("dropped", 2), 1)), ("deliver",),
                    ("deliver", ("ask", 2, 0, 1), 0), ("deliver", ["ask", 2, 0, 1]), ("deliver", "ask", 2, 0, 1),
                    ("deliver", None), ("deliver", ()), ("deliver", {}), ("deliver", []), ["deliver", ("ask", 2, 0, 1)])

    def test_bools_are_no_numbers(self):
        self.cannot(after(*ASKED), ("deliver", ("ask", 2, False, 1)), ("deliver", ("ask", 2, True, 1)),
                    ("deliver", ("ask", 2, 0, True)), ("deliver", ("ask", 2, 1, True)))
        self.cannot(after(*VOTED), ("deliver", ("vote", 2, False, (1,))), ("deliver", ("vote", 2, 0, (True,))),
                    ("deliver", ("vote", 2, True, ())))
        self.cannot(after(*DONE, ("wonder", 1), ("give", 1)), ("deliver", ("what", True)),
                    ("deliver", ("tell", ("dropped", True), 0)), ("deliver", ("tell", ("dropped", 1), False)))

    def test_a_site_that_is_down(self):
        store = after(*ASKED, ("fall", 1, 0))
        self.can(store, ("deliver", ("ask", 2, 0, 1)))
        self.cannot(store, ("deliver", ("ask", 2, 1, 1)))
        store.do(("up", 1))
        self.can(store, ("deliver", ("ask", 2, 1, 1)))

    def test_again_and_again(self):
        store = after(*VOTED)
        before = seen(store)
        for _ in range(3):
            store.do(("deliver", ("ask", 2, 0, 1)))
            store.do(("deliver", ("ask", 2, 1, 1)))
        self.assertEqual(seen(store), before)

    def test_what_it_does(self):
        state = after(*ASKED).state(0)
        self.does(ASKED, ("deliver", ("ask", 2, 0, 1)), {0: ((state[0] + (("yes", 2, (1,)),), 3, state[2]), True)},
                  (("vote", 2, 0, (1,)),))
        state = after(*VOTED).state(0)
        one = VOTED + (("deliver", ("vote", 2, 1, ())),)
        self.does(VOTED, one[-1], {0: (state[:2] + (((2, ((0, 1), (1, 1)), ((1, ()),), True), state[2][1]),), True)})
        fact = ("firm", 2, (1,))
        self.does(one, ("deliver", ("vote", 2, 0, (1,))),
                  {0: ((state[0] + (("hear", fact),), 4, state[2][1:]), True)}, (("tell", fact, 1),))
        store = after(*FIRM)
        self.assertEqual(store.facts(), (fact,))
        self.does(FIRM, ("deliver", ("tell", fact, 1)),
                  {1: ((store.state(1)[0] + (("hear", fact),),) + store.state(1)[1:], True)})


class Wonder(Case):
    def test_possible(self):
        for orders in (STARTED, FIRM, DONE + (("fall", 0, 0), ("fall", 1, 0))):
            store = after(*orders)
            self.can(store, ("wonder", 1), ("wonder", 2), ("wonder", 4))
            self.cannot(store, ("wonder", 3), ("wonder",), ("wonder", 1, 1), *[("wonder", t) for t in NO_TRANSACTIONS])

    def test_what_it_does(self):
        self.does(STARTED, ("wonder", 1), sent=(("what", 1),))
        self.does(STARTED + (("wonder", 1),), ("wonder", 1))
        self.does(STARTED + (("wonder", 1),), ("deliver", ("what", 1)))
        lost = STARTED + (("fall", 1, 0), ("wonder", 1), ("up", 1))
        self.does(lost, ("deliver", ("what", 1)), {1: (((("hear", ("dropped", 1)),), 1, ()), True)},
                  (("tell", ("dropped", 1), 0),))


class Fall(Case):
    def test_possible(self):
        for forced, orders in ((0, DONE), (3, VOTED), (2, DONE + (("force", 0),))):
            store = after(*orders)
            rows = len(store.state(0)[0])
            self.can(store, *[("fall", 0, k) for k in range(forced, rows + 1)])
            self.cannot(store, *[("fall", 0, k) for k in range(-1, forced)], ("fall", 0, rows + 1), ("fall", 0, 10 ** 39),
                        *[("fall", 0, k) for k in NO_NUMBERS], *[("fall", s, rows) for s in NO_NUMBERS], ("fall", 2, 0),
                        ("fall", 0), ("fall", 0, rows, 0), ("fall",), ["fall", 0, rows])
        self.cannot(after(("fall", 0, 0)), ("fall", 0, 0))
        self.can(after(("fall", 0, 0)), ("fall", 1, 0))

    def test_what_it_does(self):
        log = after(*DONE).state(0)[0]
        for k in (0, 1, 2):
            self.does(DONE, ("fall", 0, k), {0: ((log[:k], 0, ()), False)})
        state = after(*VOTED).state(0)
        self.does(VOTED, ("fall", 0, 3), {0: ((state[0], 3, ()), False)})


class Up(Case):
    def test_possible(self):
        store = after(*DONE, ("fall", 0, 1))
        self.can(store, ("up", 0))
        self.cannot(store, ("up", 1), ("up", 2), ("up",), ("up", 0, 0), *[("up", s) for s in NO_NUMBERS])
        self.cannot(after(*DONE, ("fall", 0, 1), ("up", 0)), ("up", 0))
        self.can(after(*DONE, ("fall", 0, 1), ("up", 0)), ("fall", 0, 3))

    def test_what_it_does(self):
        self.does((("fall", 0, 0),), ("up", 0), {0: (((), 0, ()), True)})
        rows = (("do", 1, ADD, 0), ("do", 2, GET, 5))
        self.does(DONE + (("fall", 0, 2),), ("up", 0),
                  {0: ((rows + (("no", 1), ("no", 2), ("back", 2, 1), ("back", 1, 0)), 6, ()), True)})
        voted = after(*VOTED).state(0)[0]
        self.does(VOTED + (("fall", 0, 3),), ("up", 0),
                  {0: ((voted + (("no", 1), ("back", 2, 1), ("back", 1, 0)), 6, ()), True)})


class Amid(Case):
    def test_possible(self):
        store = after(*DONE, ("fall", 0, 2))
        self.can(store, *[("amid", 0, k) for k in range(5)])
        self.cannot(store, ("amid", 0, 5), ("amid", 0, -1), ("amid", 0), ("amid", 0, 0, 0), ("amid", 1, 0), ("amid", 2, 0),
                    *[("amid", 0, k) for k in NO_NUMBERS], *[("amid", s, 0) for s in NO_NUMBERS])
        self.cannot(after(*DONE), ("amid", 0, 0))
        self.can(after(("fall", 0, 0)), ("amid", 0, 0))
        self.cannot(after(("fall", 0, 0)), ("amid", 0, 1))

    def test_each_number_of_rows_again_and_again(self):
        log = after(*DONE).state(0)[0]
        rows = (("no", 1), ("no", 2), ("back", 2, 1), ("back", 1, 0))
        for k in range(5):
            down = DONE + (("fall", 0, 2),)
            self.does(down, ("amid", 0, k), {0: ((log + rows[:k], 0, ()), False)})
            down += (("amid", 0, k),)
            for more in range(5 - k):
                self.does(down, ("amid", 0, more), {0: ((log + rows[:k + more], 0, ()), False)})
            self.does(down, ("up", 0), {0: ((log + rows, 6, ()), True)})
            self.cannot(after(*down), ("amid", 0, 5 - k))
            self.cannot(after(*down), ("fall", 0, 0), ("force", 0))


class Values(Case):
    def test_any_values(self):
        for orders in ((), DONE, FIRM, FIRM + (("fall", 0, 4),)):
            self.cannot(after(*orders), *plain_things(), (), ("Start", 3), ("start ", 3), (["start"], 3), ({}, 3), (None, 3),
                        (("start", 3),), ("close",), ("do",), Store(2), ("start", Store(2)))

    def test_altered_orders(self):
        for orders, order in ((DONE, ("do", 2, 1, SET)), (ASKED, ("deliver", ("ask", 2, 1, 1))), (DONE, ("ask", 1)),
                              (FIRM, ("deliver", ("tell", ("firm", 2, (1,)), 1))), (VOTED, ("fall", 0, 3)),
                              (VOTED, ("deliver", ("vote", 2, 0, (1,)))), (DONE + (("fall", 0, 2),), ("amid", 0, 2)),
                              (DONE, ("refuse", 2, 1)), (DONE, ("give", 4)), (DONE, ("start", 3)), (DONE, ("force", 1)),
                              (DONE + (("give", 1),), ("deliver", ("tell", ("dropped", 1), 0)))):
            store, model = after(*orders), model_after(orders)
            self.can(store, order)
            for thing in altered(order):
                self.assertIs(store.is_possible(thing), models.is_possible(model, thing), thing)


class Close(Case):
    def test_the_empty_store(self):
        for many in (1, 2, 3, 4):
            store = Store(many)
            self.assertIs(store.close(), None)
            self.assertEqual(store, Store(many))

    def test_sites_come_up_and_desks_are_cleared(self):
        for orders in (STARTED, DONE, ASKED, VOTED, FIRM, FIRM + (("fall", 0, 4), ("fall", 1, 3)),
                       DONE + (("fall", 0, 2), ("amid", 0, 1))):
            store = after(*orders)
            store.close()
            promises.look_at_end(self, store)
            model = model_after(orders)
            models.close(model)
            self.assertEqual(seen(store), seen_of(model))

    def test_what_is_firm_stays(self):
        store = after(*FIRM, ("give", 1))
        store.close()
        self.assertEqual(store.facts(), (("dropped", 1), ("firm", 2, (1,)), ("dropped", 4)))
        kept = after(*FIRM, ("ask", 1), ("deliver", ("ask", 1, 0, 1)), ("deliver", ("vote", 1, 0, ())))
        kept.close()
        self.assertEqual(kept.facts(), (("firm", 1, ()), ("firm", 2, (1,)), ("dropped", 4)))

    def test_closing_again(self):
        store = after(*FIRM)
        store.close()
        before = seen(store)
        store.close()
        self.assertEqual(seen(store), before)

    def test_closing_a_copy(self):
        store = after(*FIRM)
        before, other = seen(store), store.copied()
        other.close()
        self.assertEqual(seen(store), before)
        self.assertNotEqual(other, store)
        store.close()
        self.assertEqual(other, store)

    def test_a_closed_store_goes_on(self):
        store = after(*FIRM)
        store.close()
        for order in (("start", 7), ("do", 7, 0, SET), ("do", 7, 1, GET), ("ask", 7), ("deliver", ("ask", 7, 0, 1)),
                      ("deliver", ("ask", 7, 1, 1)), ("deliver", ("vote", 7, 0, ())), ("deliver", ("vote", 7, 1, ()))):
            self.can(store, order)
            store.do(order)
        promises.look_at_all(self, store)
        self.assertIn(("firm", 7, ()), store.facts())


def seen_of(model):
    return ([(model.states[s], model.up[s]) for s in range(model.many)], tuple(sorted(model.sent)),
            tuple(sorted(model.started)), models.facts(model))


class Equal(Case):
    def equal(self, expected, one, other):
        self.assertIs(one == other, expected)
        self.assertIs(other == one, expected)
        self.assertIs(one != other, not expected)

    def test_the_same_orders(self):
        for orders in ((), STARTED, FIRM, FIRM + (("fall", 0, 4),)):
            self.equal(True, after(*orders), after(*orders))
            self.equal(True, after(*orders), after(*orders).copied())
        # Orders without effect, and orders that come to the same.
        self.equal(True, after(*VOTED), after(*VOTED, ("deliver", ("ask", 2, 0, 1))))
        self.equal(True, after(*STARTED), after(*reversed(STARTED)))
        self.equal(True, after(("force", 0)), Store(2))

    def test_each_difference(self):
        store = after(*FIRM)
        for order in (("start", 3), ("do", 1, 0, GET), ("ask", 1), ("give", 1), ("refuse", 4, 1), ("wonder", 4),
                      ("deliver", ("tell", ("firm", 2, (1,)), 1)), ("fall", 1, 3), ("refuse", 1, 0)):
            self.equal(False, store, after(*FIRM, order))
        self.equal(False, after(*DONE), after(*DONE, ("force", 1)))
        self.equal(False, after(("fall", 0, 0)), Store(2))
        self.equal(False, after(("fall", 0, 0)), after(("fall", 1, 0)))
        self.equal(False, Store(2), Store(3))
        self.equal(False, after(("start", 1), ("give", 1), ("wonder", 1)), after(("start", 1), ("give", 1)))
        # Only the started ones differ.
        self.equal(False, after(("start", 1), ("fall", 1, 0), ("up", 1)), Store(2))

    def test_other_values(self):
        for thing in plain_things() + [seen(Store(2)), "Store", [Store(2)], (Store(2),)]:
            self.equal(False, Store(2), thing)

    def test_copies_go_their_own_way(self):
        for orders in (DONE, ASKED, VOTED, FIRM, FIRM + (("fall", 1, 3),)):
            for order in (("start", 3), ("do", 1, 0, GET), ("give", 4), ("wonder", 1), ("refuse", 4, 1), ("force", 0),
                          ("deliver", ("ask", 2, 0, 1)), ("fall", 0, 4), ("up", 1), ("amid", 1, 1)):
                store = after(*orders)
                if store.is_possible(order):
                    other = store.copied()
                    before = seen(store)
                    other.do(order)
                    self.assertEqual(seen(store), before)
                    self.equal(True, other, after(*orders, order))
                    twin = store.copied()
                    store.do(order)
                    self.assertEqual(seen(twin), before)
                    self.equal(True, store, other)


class Rings(Case):
    def test_a_ring_over_several_sites(self):
        # At each site another one of them builds on the one before it, so all are dropped.
        for many in (2, 3, 4):
            orders = [("start", t) for t in range(many)]
            orders += [("do", t, t, ADD) for t in range(many)]
            orders += [("do", t, (t + 1) % many, GET) for t in range(many)]
            orders += [("ask", t) for t in range(many)]
            store = after(*orders, many=many)
            for _ in range(3):
                for message in store.sent():
                    store.do(("deliver", message))
            self.assertEqual(store.facts(), tuple([("firm", t, ((t + 1) % many,)) for t in range(many)]))
            closed = promises.look_at_all(self, store)
            for s in range(many):
                log = closed.state(s)[0]
                self.assertEqual(len([row for row in log if row[0] == "back"]), 2)

    def test_adds_alone(self):
        # Nobody supports anybody, so each is kept or dropped for itself.
        orders = [("start", t) for t in range(6)]
        orders += [("do", t, s, ("add", "x", 10 ** t)) for t in range(6) for s in (0, 1)]
        orders += [("ask", t) for t in (0, 2, 4, 5)]
        store = after(*orders, ("refuse", 4, 1))
        for _ in range(3):
            for message in store.sent():
                store.do(("deliver", message))
        closed = promises.look_at_all(self, store)
        self.assertEqual([fact for fact in closed.facts() if fact[0] == "firm"],
                         [("firm", 0, ()), ("firm", 2, ()), ("firm", 5, ())])
        self.assertEqual(promises.values(closed.state(1)[0]), (("x", 100101),))


class RandomOrders(Case):
    def test_compared_with_the_reference(self):
        random = Random(101)
        for n in range(250):
            many, transactions = random.randint(1, 4), random.randint(2, 5)
            store, model = Store(many), models.Model(many)
            words = random.choice([making.WORDS, making.CALM])
            for _ in range(random.randint(1, 90)):
                order = making.random_order(random, store, transactions, words=words)
                if not models.is_possible(model, order):
                    self.assertIs(store.is_possible(order), False, order)
                    self.raises(BadOrder, order, lambda: store.do(order))
                else:
                    self.assertIs(store.is_possible(order), True, order)
                    self.assertEqual(store.do(order), models.do(model, order))
                self.assertEqual(seen(store), seen_of(model))
            store.close()
            models.close(model)
            self.assertEqual(seen(store), seen_of(model))

    def test_what_is_promised(self):
        random = Random(102)
        kept = 0
        for n in range(150):
            store, watch = Store(random.randint(1, 4)), promises.Watch()
            words = random.choice([making.WORDS, making.CALM])
            transactions, keys = random.randint(2, 8), random.choice([("x",), ("x", "y"), ("a", "b", "x", "y")])
            for _ in range(random.randint(1, 110)):
                making.lead(random, store, 1, transactions, keys, words)
                watch.look(self, store)
            closed = promises.look_at_all(self, store)
            watch.look(self, closed)
            kept += len([fact for fact in closed.facts() if fact[0] == "firm"])
        self.assertGreater(kept, 100)

    def test_forced_rows_stay(self):
        random = Random(103)
        for n in range(100):
            store = Store(random.randint(1, 3))
            forced = [()] * store.many
            for _ in range(80):
                making.lead(random, store, 1, 4)
                for s in range(store.many):
                    log, count, _ = store.state(s)
                    self.assertEqual(log[:len(forced[s])], forced[s])
                    forced[s] = log[:count]
                    self.assertIs(is_log(log), True)


if __name__ == "__main__":
    unittest.main()
