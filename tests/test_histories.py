"""Which events are possible, and which values are histories ([4.1], [4.2])."""

import unittest
from random import Random

from tests import making
from tests import reference_sites as sites
from tests.things import CELLS, altered, plain_things
from yesifs import errors
from yesifs.sites import is_event, is_history

EMPTY = ((), ())
TWO = (("do", 1, "add"), ("do", 2, "get"))
LENT = TWO + (("yes", 2, (1,)), ("yes", 1, ()))
KINDS = tuple("abcdefghijkl")
WIDE = (KINDS, tuple([(one, other) for one in KINDS for other in KINDS if one <= other]))
EVENTS = [("do", 1, "add"), ("do", 3, "get"), ("yes", 1, ()), ("yes", 2, (1,)), ("yes", 1, (2,)), ("no", 1), ("no", 3),
          ("hear", ("firm", 1, ())), ("hear", ("firm", 2, (1, 3))), ("hear", ("dropped", 2)), ("back", 1, 0),
          ("back", 2, 1), ("fall",)]
NEVER = [
    (), ("fall", 1), ("fall", ()), ["fall"], "fall", ("Fall",), ("fal",), (("fall",),), ("do", 3), ("do", 3, "add", 1),
    ("do", "add", 3), ("do", True, "add"), ("do", False, "add"), ("do", -1, "add"), ("do", "3", "add"),
    ("do", None, "add"), ("do", (3,), "add"), ("do", [3], "add"), ("do", 3, "set"), ("do", 3, "ad"), ("do", 3, ""),
    ("do", 3, ("add",)), ("do", 3, ["add"]), ("do", 3, None), ("do", 3, 0), ("do", 3, ("add", "get")), ["do", 3, "add"],
    ("no",), ("no", True), ("no", -1), ("no", "3"), ("no", 3, ()), ("no", (3,)), ("no", [3]), ("no", None), ["no", 3],
    ("hear",), ("hear", ()), ("hear", ("firm", 3)), ("hear", ("firm", 3, [])), ("hear", ("firm", 3, (3,))),
    ("hear", ("firm", 3, (2, 1))), ("hear", ("firm", 3, (True,))), ("hear", ("firm", True, ())),
    ("hear", ("dropped", True)), ("hear", ("dropped", 3, ())), ("hear", ["dropped", 3]), ("hear", "dropped", 3),
    ("hear", ("dropped", 3), ()), ("hear", (("dropped", 3),)), ("hear", None), ["hear", ("dropped", 3)],
    ("back",), ("back", 1), ("back", 0, 1), ("back", 1, None), ("back", 1, [0]), ("back", 1, "0"), ("back", 1, -1),
    ("yes",), ("yes", 1), ("yes", 1, [2]), ("yes", 1, 2), ("yes", 1, (1,)), ("yes", 2, (True,)), ("yes", 2, (2, 1)),
    ("yes", 2, (1, 1)), ("yes", True, ()), ("yes", 1, (), ()), ("yes", 1, None), ["yes", 1, ()], ("yes", 1, {}),
    ("yes", 2, (-1,)), ("yes", 2, ([],)), ("yes", 1, (9,)), ("yes", 3, ()), ("yes", 1, "2"), ("yes", -1, ()),
]


class Case(unittest.TestCase):
    def can(self, history, *events, table=CELLS):
        for event in events:
            self.assertIs(is_event(table, history, event), True, (history, event))
            self.assertIs(is_event(thing=event, history=history, table=table), True)
            self.assertIs(is_history(table, history + (event,)), True)

    def cannot(self, history, *events, table=CELLS):
        self.assertIs(is_history(table, history), True, history)
        for event in events:
            self.assertIs(is_event(table, history, event), False, (history, event))
            self.assertIs(is_history(table, history + (event,)), False)
            self.assertIs(is_history(table, history + (event, ("fall",))), False)


class Possible(Case):
    def test_the_empty_history(self):
        self.assertIs(is_history(CELLS, ()), True)
        self.assertIs(is_history(thing=(), table=EMPTY), True)
        self.can((), ("do", 0, "add"), ("do", 10 ** 39, "get"), ("no", 1), ("hear", ("firm", 1, ())),
                 ("hear", ("firm", 1, (2, 5))), ("hear", ("dropped", 0)), ("fall",))
        self.cannot((), ("yes", 1, ()), ("back", 1, 0), ("back", 0, 0))
        self.can((), ("no", 1), ("hear", ("firm", 1, ())), ("fall",), table=EMPTY)
        self.cannot((), ("do", 1, "add"), table=EMPTY)

    def test_do(self):
        self.can(TWO, ("do", 1, "add"), ("do", 1, "get"), ("do", 2, "add"), ("do", 3, "add"))
        self.can(TWO + (("fall",),), ("do", 3, "add"))
        self.cannot(TWO + (("yes", 1, ()),), ("do", 1, "add"))
        self.cannot(TWO + (("no", 1),), ("do", 1, "add"))
        self.cannot((("no", 3),), ("do", 3, "add"))
        self.cannot(TWO + (("fall",),), ("do", 1, "add"), ("do", 2, "get"))
        self.cannot(TWO + (("hear", ("dropped", 1)),), ("do", 1, "add"))
        self.cannot(TWO + (("hear", ("dropped", 3)),), ("do", 3, "add"))
        self.cannot(TWO + (("hear", ("firm", 3, (9,))),), ("do", 3, "add"))
        self.cannot(TWO, ("do", 1, "set"))

    def test_yes(self):
        self.can(TWO, ("yes", 1, ()), ("yes", 1, (2,)), ("yes", 2, (1,)))
        three = TWO + (("do", 3, "get"),)
        self.can(three, ("yes", 2, (1, 3)), ("yes", 3, (1, 2)), ("yes", 1, (3,)))
        self.cannot(three, ("yes", 2, (3, 1)), ("yes", 2, (1, 1)), ("yes", 2, (1, 2)), ("yes", 2, (1, 4)))
        self.cannot(TWO, ("yes", 3, ()), ("yes", 1, (3,)), ("yes", 1, (0,)))
        self.cannot(TWO + (("yes", 1, ()),), ("yes", 1, ()), ("yes", 1, (2,)))
        self.cannot(TWO + (("no", 1),), ("yes", 1, ()))
        self.cannot(TWO + (("fall",),), ("yes", 1, ()), ("yes", 2, ()))
        self.cannot(TWO + (("hear", ("dropped", 1)),), ("yes", 1, ()))

    def test_yes_on_transactions_that_are_kept_lost_or_taken_back(self):
        self.can(TWO + (("no", 1),), ("yes", 2, (1,)), ("yes", 2, ()))
        self.can(TWO + (("no", 1), ("back", 1, 0)), ("yes", 2, (1,)))
        self.can(TWO + (("yes", 1, ()), ("hear", ("firm", 1, ()))), ("yes", 2, (1,)), ("yes", 2, ()))
        # A vote "no" or a heard fact is no step.
        self.cannot(TWO + (("no", 3), ("hear", ("firm", 4, ()))), ("yes", 2, (3,)), ("yes", 2, (4,)))

    def test_no(self):
        self.can(TWO, ("no", 1), ("no", 2), ("no", 3))
        self.cannot(TWO + (("yes", 1, ()),), ("no", 1))
        self.cannot(TWO + (("no", 1), ("no", 3)), ("no", 1), ("no", 3))
        self.cannot(TWO + (("fall",),), ("no", 1), ("no", 2))
        self.can(TWO + (("fall",),), ("no", 3))
        for fact in (("dropped", 1), ("dropped", 3), ("firm", 3, ())):
            self.cannot(TWO + (("hear", fact),), ("no", fact[1]))

    def test_hear_dropped(self):
        self.can(TWO, ("hear", ("dropped", 1)), ("hear", ("dropped", 2)), ("hear", ("dropped", 3)))
        self.can(TWO + (("yes", 1, ()), ("no", 2)), ("hear", ("dropped", 1)), ("hear", ("dropped", 2)))
        self.can(TWO + (("fall",),), ("hear", ("dropped", 1)))

    def test_no_second_fact(self):
        for one in (("dropped", 3), ("firm", 3, ()), ("firm", 3, (1,))):
            self.cannot(TWO + (("hear", one),), ("hear", ("dropped", 3)), ("hear", ("firm", 3, ())),
                        ("hear", ("firm", 3, (1,))))
        self.cannot(LENT + (("hear", ("firm", 1, ())),), ("hear", ("firm", 1, ())), ("hear", ("dropped", 1)))

    def test_hear_firm(self):
        self.can(TWO, ("hear", ("firm", 3, ())), ("hear", ("firm", 3, (1, 2, 8))))
        self.cannot(TWO, ("hear", ("firm", 1, ())), ("hear", ("firm", 2, (1,))))
        self.can(LENT, ("hear", ("firm", 1, ())), ("hear", ("firm", 1, (2, 7))), ("hear", ("firm", 2, (1,))),
                 ("hear", ("firm", 2, (0, 1, 5))))
        self.cannot(LENT, ("hear", ("firm", 2, ())), ("hear", ("firm", 2, (0, 5))))
        three = TWO + (("do", 3, "add"), ("yes", 3, (1, 2)))
        self.can(three, ("hear", ("firm", 3, (1, 2))), ("hear", ("firm", 3, (0, 1, 2))))
        self.cannot(three, ("hear", ("firm", 3, (1,))), ("hear", ("firm", 3, (2,))), ("hear", ("firm", 3, ())))
        self.cannot(TWO + (("no", 1), ("no", 3)), ("hear", ("firm", 1, ())), ("hear", ("firm", 3, ())))
        self.cannot(TWO + (("fall",),), ("hear", ("firm", 1, ())))

    def test_hear_firm_of_a_lost_transaction(self):
        self.can(TWO + (("yes", 2, (1,)), ("no", 1)), ("hear", ("firm", 2, (1,))))
        self.can(TWO + (("yes", 2, (1,)), ("fall",)), ("hear", ("firm", 2, (1,))))
        self.can(TWO + (("yes", 2, (1,)), ("yes", 1, (2,))), ("hear", ("firm", 2, (1,))), ("hear", ("firm", 1, (2,))))

    def test_back(self):
        refused = TWO + (("do", 1, "get"), ("no", 1))
        self.can(refused, ("back", 1, 0), ("back", 1, 2))
        self.cannot(refused, ("back", 1, 1), ("back", 2, 1), ("back", 2, 0), ("back", 1, 3), ("back", 1, 4),
                    ("back", 1, False), ("back", True, 0), ("back", 3, 0))
        self.can(refused + (("back", 1, 2),), ("back", 1, 0))
        self.cannot(refused + (("back", 1, 2),), ("back", 1, 2))
        self.can(refused + (("back", 1, 0),), ("back", 1, 2))
        self.cannot(TWO, ("back", 1, 0), ("back", 2, 1))
        self.cannot(LENT, ("back", 1, 0), ("back", 2, 1))
        self.cannot(LENT + (("hear", ("firm", 1, ())),), ("back", 1, 0))

    def test_back_of_what_a_fall_took_back(self):
        self.cannot(TWO + (("fall",),), ("back", 1, 0), ("back", 2, 1))
        # 1 is lost, and not at a fall: its step is still there.
        history = (("do", 1, "add"), ("yes", 1, ()), ("fall",), ("hear", ("dropped", 1)))
        self.can(history, ("back", 1, 0))
        self.cannot(history + (("fall",),), ("back", 1, 0))

    def test_fall(self):
        for history in ((), TWO, LENT, TWO + (("fall",),), TWO + (("fall",), ("fall",))):
            self.can(history, ("fall",))


class Lost(Case):
    """A step can be taken back exactly if its transaction is lost."""

    def lost(self, history, t, i):
        self.can(history, ("back", t, i))

    def test_a_vote(self):
        self.lost(TWO + (("no", 1),), 1, 0)
        self.cannot(TWO + (("no", 2),), ("back", 1, 0))

    def test_a_heard_fact(self):
        self.lost(TWO + (("hear", ("dropped", 1)),), 1, 0)
        self.lost(LENT + (("hear", ("dropped", 1)),), 1, 0)

    def test_a_lost_condition(self):
        for event in (("no", 1), ("hear", ("dropped", 1))):
            self.lost(TWO + (("yes", 2, (1,)), event), 2, 1)
            self.cannot(TWO + (("yes", 2, ()), event), ("back", 2, 1))
        three = TWO + (("do", 3, "get"), ("yes", 3, (2,)), ("yes", 2, (1,)), ("no", 1))
        self.lost(three, 3, 2)

    def test_a_condition_of_a_fact(self):
        # The fact has a condition that the vote here has not.
        history = TWO + (("yes", 2, ()), ("hear", ("firm", 2, (3,))))
        self.cannot(history, ("back", 2, 1))
        self.lost(history + (("no", 3),), 2, 1)
        self.lost(history + (("hear", ("dropped", 3)),), 2, 1)
        self.lost(history + (("hear", ("firm", 3, (4,))), ("hear", ("dropped", 4))), 2, 1)

    def test_rings(self):
        self.lost(TWO + (("yes", 2, (1,)), ("yes", 1, (2,))), 1, 0)
        self.lost(TWO + (("yes", 2, (1,)), ("yes", 1, (2,))), 2, 1)
        mixed = TWO + (("yes", 2, ()), ("yes", 1, (2,)), ("hear", ("firm", 2, (1,))))
        self.lost(mixed, 1, 0)
        self.lost(mixed, 2, 1)
        abroad = TWO + (("yes", 2, ()), ("hear", ("firm", 2, (3,))), ("hear", ("firm", 3, (2, 4))))
        self.lost(abroad, 2, 1)
        self.cannot(abroad, ("back", 1, 0))
        behind = TWO + (("yes", 1, (2,)), ("yes", 2, ()), ("hear", ("firm", 2, (3,))), ("hear", ("firm", 3, (2,))))
        self.lost(behind, 1, 0)
        three = TWO + (("do", 3, "add"), ("yes", 1, (2,)), ("yes", 2, (3,)))
        self.cannot(three, ("back", 1, 0), ("back", 2, 1), ("back", 3, 2))
        for t, i in ((1, 0), (2, 1), (3, 2)):
            self.lost(three + (("yes", 3, (1,)),), t, i)

    def test_a_fall(self):
        # 1 falls, and with it what was conditioned on it; the fall itself takes all their steps back.
        fell = TWO + (("yes", 2, (1,)), ("fall",))
        self.cannot(fell, ("back", 1, 0), ("back", 2, 1), ("do", 1, "add"), ("yes", 1, ()), ("no", 1))
        self.can(fell, ("hear", ("firm", 2, (1,))), ("hear", ("dropped", 1)))
        self.cannot(TWO + (("yes", 1, ()), ("fall",)), ("back", 1, 0))


class Values(Case):
    def test_events_that_are_never_possible(self):
        for history in ((), TWO, LENT, TWO + (("no", 1),), TWO + (("fall",),)):
            self.cannot(history, *NEVER, *plain_things())

    def test_values_that_are_no_histories(self):
        for thing in plain_things() + [list(TWO), (list(TWO[0]),), TWO[0], (TWO,), (("fall",), None), ((),), "fall",
                                       {0: ("fall",)}, (("fall",), ["fall"])]:
            self.assertIs(is_history(CELLS, thing), thing == (), thing)

    def test_altered_histories(self):
        for history in (LENT + (("hear", ("firm", 1, ())),), TWO + (("no", 1), ("back", 1, 0), ("fall",))):
            for thing in altered(history):
                self.assertIs(is_history(CELLS, thing), sites.is_history(CELLS, thing), thing)

    def test_altered_events(self):
        for history in ((), TWO, LENT, TWO + (("no", 1),)):
            for event in EVENTS:
                for thing in altered(event):
                    self.assertIs(is_event(CELLS, history, thing), sites.is_event(CELLS, history, thing), thing)

    def test_somewhat_more_than_the_limits(self):
        self.assertIs(is_history(CELLS, (("fall",),) * 600), True)
        self.assertIs(is_history(CELLS, tuple([("do", t, "add") for t in range(120)])), True)


class Compared(Case):
    def test_all_events_after_random_histories(self):
        random = Random(11)
        for n in range(300):
            table = making.random_table(random)
            many = random.randint(2, 4)
            history = making.random_history(random, table, random.randint(0, 9), many)
            self.assertIs(is_history(table, history), True)
            for event in making.all_events(table[0], many, len(history) + 1):
                self.assertIs(is_event(table, history, event), sites.is_event(table, history, event),
                              (table, history, event))

    def test_exchanged_events(self):
        random = Random(12)
        for n in range(300):
            table = making.random_table(random)
            history = making.random_history(random, table, random.randint(2, 9), 3)
            for at in range(len(history)):
                for thing in (history[:at] + history[at + 1:], history[:at] + history[at:at + 1] + history[at:],
                              history[:at][::-1] + history[at:], history[at:] + history[:at]):
                    self.assertIs(is_history(table, thing), sites.is_history(table, thing), (table, thing))


class WrongInputs(Case):
    def test_no_table(self):
        for thing in plain_things() + [(("get", "add"), ()), CELLS[::-1], list(CELLS)]:
            if thing != EMPTY:
                for call in (lambda: is_history(thing, ()), lambda: is_history(thing=None, table=thing),
                             lambda: is_event(thing, (), ("fall",)), lambda: is_event(thing, None, None),
                             lambda: is_event(thing=(), history=(), table=thing)):
                    with self.assertRaises(errors.BadTable) as caught:
                        call()
                    self.assertIs(caught.exception.thing, thing)

    def test_no_history(self):
        for thing in plain_things() + [LENT[::-1], (("do", 1, "set"),), LENT + LENT[-1:], TWO[0]]:
            if thing != ():
                for call in (lambda: is_event(CELLS, thing, ("fall",)), lambda: is_event(CELLS, thing, None),
                             lambda: is_event(thing=(), history=thing, table=CELLS)):
                    with self.assertRaises(errors.BadHistory) as caught:
                        call()
                    self.assertIs(caught.exception.thing, thing)

    def test_a_history_for_another_table(self):
        with self.assertRaises(errors.BadHistory):
            is_event((("add",), ()), TWO, ("fall",))
        self.assertIs(is_event(WIDE, (("do", 1, "l"),), ("do", 2, "a")), True)


if __name__ == "__main__":
    unittest.main()
