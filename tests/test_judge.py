"""Right histories, sufficient votes, nested compensations and certificates (part 5)."""

import unittest

from tests import reference
from tests import reference_sites as sites
from tests.test_facts import NO_TRANSACTIONS
from tests.test_histories import CELLS, EMPTY, LENT, TWO
from tests.test_sites import NO_HISTORIES, NO_TABLES
from tests.things import altered, plain_things
from yesifs.errors import BadHistory, BadTable, BadTransaction
from yesifs.judge import (full_conditions, history_holds, is_right, is_right_now, is_sufficient, judge_history,
                          least_conditions, supports)
from yesifs.sites import is_event, is_history

# Each operation conflicts with each.
ONE = (("a",), (("a", "a"),))
BARE = TWO + (("yes", 2, ()),)
EARLY = TWO + (("no", 1), ("back", 1, 0))
BUILT = TWO + (("do", 3, "add"),)


def steps(*transactions):
    return tuple([("do", t, "a") for t in transactions])


class Case(unittest.TestCase):
    def sufficient(self, table, history, u, *all_conditions):
        for conditions in all_conditions:
            self.assertIs(is_sufficient(table, history, u, conditions), True, (history, u, conditions))
            self.assertIs(is_sufficient(thing=conditions, u=u, history=history, table=table), True)
            vote = history + (("yes", u, conditions),)
            self.assertIs(is_right(table, vote), is_right(table, history))
            self.assertEqual(judge_history(table, vote), judge_history(table, history))

    def lacking(self, table, history, u, conditions, *missing):
        """The vote is possible, and not sufficient, because of exactly these supporters."""
        vote = history + (("yes", u, conditions),)
        self.assertIs(is_history(table, vote), True)
        self.assertIs(is_sufficient(table, history, u, conditions), False, (history, u, conditions))
        self.assertIs(is_right(table, vote), False)
        for t in range(8):
            thing = ("wrong", len(history), ("vote", u, t))
            self.assertIs(history_holds(table, vote, thing), t in missing, thing)
        self.assertIn(judge_history(table, vote), [("wrong", len(history), ("vote", u, t)) for t in missing])


class Sufficient(Case):
    def test_without_supporters(self):
        self.sufficient(CELLS, TWO, 1, (), (2,))
        self.sufficient((("add", "get"), ()), TWO, 2, (), (1,))
        self.sufficient(ONE, steps(1, 1), 1, ())

    def test_a_supporter(self):
        self.sufficient(CELLS, TWO, 2, (1,))
        self.lacking(CELLS, TWO, 2, (), 1)
        self.lacking(ONE, steps(1, 2, 3), 3, (), 1, 2)
        self.lacking(ONE, steps(1, 2, 3, 4) + (("yes", 1, ()),), 4, (1,), 2, 3)
        self.sufficient(ONE, steps(1, 2, 3, 4), 4, (1, 2, 3))

    def test_what_is_taken_back_does_not_support(self):
        self.sufficient(CELLS, EARLY, 2, (), (1,))
        self.lacking(ONE, steps(1, 2, 1) + (("no", 1), ("back", 1, 2)), 2, (), 1)
        self.sufficient(ONE, steps(1, 2, 1) + (("no", 1), ("back", 1, 2)), 2, (1,))

    def test_a_supporter_that_is_needed(self):
        # 2 is active and needs 1, its supporter; a vote would need its conditions instead.
        self.sufficient(ONE, steps(1, 2, 3), 3, (2,), (1, 2))
        self.sufficient(ONE, steps(1, 2, 3) + (("yes", 2, (1,)),), 3, (2,))
        voted = steps(1, 2, 3) + (("yes", 2, ()),)
        self.assertIs(is_sufficient(ONE, voted, 3, (2,)), False)
        self.assertIs(is_sufficient(ONE, voted, 3, (1, 2)), True)
        self.sufficient(CELLS, (("do", 1, "add"), ("do", 2, "get"), ("do", 3, "add"), ("do", 4, "get")), 4, (1, 3),
                        (1, 2, 3), (2, 3), (3,))

    def test_a_supporter_that_is_needed_by_a_fact(self):
        # The fact of 2, from another site, has the condition 1.
        history = (("do", 1, "add"), ("do", 2, "add"), ("do", 3, "get"), ("yes", 2, ()))
        self.lacking(CELLS, history, 3, (2,), 1)
        self.sufficient(CELLS, history + (("hear", ("firm", 2, (1,))),), 3, (2,))
        self.lacking(CELLS, history + (("hear", ("firm", 2, (1, 5))),), 3, (1,), 2)
        # On the way lies a transaction without a step here.
        self.sufficient(CELLS, history + (("hear", ("firm", 2, (5,))), ("hear", ("firm", 5, (1,)))), 3, (2,))
        self.lacking(CELLS, history + (("hear", ("firm", 2, (5,))),), 3, (2,), 1)

    def test_an_implied_supporter(self):
        # The fact of 1 has only conditions that 2 needs, so 1 is kept if 2 is.
        history = (("do", 1, "add"), ("do", 2, "add"), ("do", 3, "get"), ("yes", 1, ()), ("yes", 2, ()))
        self.lacking(CELLS, history, 3, (2,), 1)
        self.sufficient(CELLS, history + (("hear", ("firm", 1, (2,))),), 3, (2,), (1,), (1, 2))
        self.sufficient(CELLS, history + (("hear", ("firm", 1, (5,))), ("hear", ("firm", 5, (2,)))), 3, (2,))
        self.sufficient(CELLS, history + (("hear", ("firm", 1, (5,))), ("hear", ("firm", 5, ()))), 3, (2,))
        self.lacking(CELLS, history + (("hear", ("firm", 1, (2, 5))),), 3, (2,), 1)
        self.sufficient(CELLS, history + (("hear", ("firm", 1, (5,))), ("hear", ("firm", 2, (5,)))), 3, (1,), (2,))
        # A vote is no fact: its conditions imply nothing.
        self.lacking(CELLS, history[:3] + (("yes", 1, (2,)), ("yes", 2, ())), 3, (2,), 1)

    def test_a_known_kept_supporter(self):
        history = TWO[:1] + (("yes", 1, ()), ("hear", ("firm", 1, ())), ("do", 2, "get"))
        self.sufficient(CELLS, history, 2, (), (1,))
        self.sufficient(ONE, steps(1) + (("yes", 1, ()),) + steps(2, 3) + (("hear", ("firm", 1, ())),), 3, (2,))
        self.lacking(ONE, steps(1) + (("yes", 1, ()),) + steps(2, 3) + (("hear", ("firm", 1, ())),), 3, (), 2)

    def test_what_is_known_kept_needs_nothing(self):
        # 3 would need 2 by its vote, but it is known kept with 2; of 1 nothing is known.
        history = (("do", 2, "add"), ("do", 3, "add"), ("do", 1, "add"), ("do", 4, "get"), ("yes", 2, ()),
                   ("yes", 3, (2,)), ("hear", ("firm", 2, ())), ("hear", ("firm", 3, (2,))))
        self.lacking(CELLS, history, 4, (3,), 1)
        self.lacking(CELLS, history, 4, (), 1)
        self.sufficient(CELLS, history, 4, (1,))

    def test_hopeless_because_lost(self):
        lost = TWO + (("no", 1),)
        self.sufficient(CELLS, lost, 2, (1,))
        self.lacking(CELLS, lost, 2, (), 1)
        # The lost one needs not support: 3 was refused, and 2 is active.
        elsewhere = (("do", 1, "add"), ("do", 2, "get"), ("do", 3, "get"), ("no", 3))
        self.sufficient(CELLS, elsewhere, 2, (3,), (1, 3), (1,))
        self.lacking(CELLS, elsewhere, 2, (), 1)
        # It is lost by a fact, and reached by the vote of another one.
        far = (("do", 1, "add"), ("do", 2, "get"), ("do", 3, "get"), ("yes", 3, (1,)), ("hear", ("dropped", 3)))
        self.sufficient(CELLS, far, 2, (3,))
        voted = (("do", 3, "get"), ("do", 1, "add"), ("do", 2, "get"), ("yes", 3, ()), ("hear", ("firm", 3, (6,))))
        self.lacking(CELLS, voted, 2, (3,), 1)
        self.sufficient(CELLS, voted + (("no", 6),), 2, (3,))
        self.sufficient(CELLS, voted + (("hear", ("dropped", 6)),), 2, (3,))

    def test_hopeless_because_of_itself(self):
        # 2 supports 1, and 1 supports 2: each reaches the other one, that is, itself.
        self.sufficient(ONE, steps(1, 2, 1), 1, (2,))
        self.sufficient(ONE, steps(1, 2, 1), 2, (1,))
        self.lacking(ONE, steps(1, 2, 1), 1, (), 2)
        # 3 voted on 2; a vote for 2 on 3 can never be kept, whatever else supports it.
        history = (("do", 1, "add"), ("do", 2, "get"), ("do", 3, "get"), ("yes", 3, (2,)))
        self.sufficient(CELLS, history, 2, (3,), (1,), (1, 3))
        self.lacking(CELLS, history, 2, (), 1)

    def test_hopeless_because_of_a_ring_that_implies_nothing(self):
        table = (("a", "b"), (("a", "a"), ("b", "b")))
        history = (("do", 3, "a"), ("do", 4, "a"), ("do", 3, "a"), ("do", 1, "b"), ("do", 2, "b"))
        self.sufficient(table, history, 2, (3,), (4,), (1,))
        self.lacking(table, history, 2, (), 1)
        # Without the second step of 3 there is no ring.
        self.lacking(table, history[:2] + history[3:], 2, (4,), 1)
        self.sufficient(table, history + (("yes", 3, (4,)),), 2, (3,), (4,))
        self.sufficient(table, history + (("yes", 4, (3,)),), 2, (3,), (4,))
        # A vote and a fact of another site.
        far = history + (("yes", 3, ()), ("hear", ("firm", 3, (6,))), ("hear", ("firm", 6, (4,))))
        self.sufficient(table, far, 2, (3,), (4,))
        self.sufficient(table, history + (("yes", 3, ()),), 2, (1,))
        self.assertIs(is_sufficient(table, history + (("yes", 3, ()),), 2, (4,)), False)

    def test_hopeless_because_of_a_ring(self):
        # 3 and 4 are active and support each other, which is a ring, though no lost one.
        history = (("do", 1, "add"), ("do", 3, "add"), ("do", 4, "get"), ("do", 3, "add"), ("do", 2, "get"))
        self.assertIs(is_sufficient(CELLS, history, 2, (3,)), True)
        self.assertIs(is_sufficient(CELLS, history, 2, (4,)), True)
        self.lacking(CELLS, history, 2, (1,), 3)
        self.lacking(CELLS, history, 2, (), 1, 3)
        # The ring goes through an active one and a vote.
        half = (("do", 1, "add"), ("do", 3, "add"), ("do", 4, "get"), ("do", 2, "get"), ("yes", 3, (4,)))
        self.sufficient(CELLS, half, 2, (3,), (4,))
        self.lacking(CELLS, half, 2, (1,), 3)

    def test_values_that_are_no_possible_conditions(self):
        for thing in [(2,), (1, 2), (3,), (1, 3), (1, 1), [1], (True,), "1", 1, None, ("1",), ([1],), {1: 2}, (-1,),
                      (1, None), *plain_things(), *altered((1,))]:
            expected = thing == (1,) and type(thing) is tuple and type(thing[0]) is int
            self.assertIs(is_sufficient(CELLS, TWO, 2, thing), expected, thing)


class Nested(Case):
    def check(self, table, history, *wrong):
        """The history is right but for the last event, which is wrong because of these steps."""
        self.assertIs(is_right(table, history[:-1]), True)
        self.assertIs(is_right(table, history), not wrong)
        p, i = len(history) - 1, history[-1][2]
        for j in range(len(history)):
            self.assertIs(history_holds(table, history, ("wrong", p, ("back", i, j))), j in wrong)
        self.assertIn(judge_history(table, history), [("wrong", p, ("back", i, j)) for j in wrong] or [("right",)])

    def test_other_transactions(self):
        self.check(CELLS, EARLY, 1)
        self.check(CELLS, TWO + (("no", 2), ("back", 2, 1)))
        self.check(CELLS, TWO + (("no", 1), ("no", 2), ("back", 2, 1), ("back", 1, 0)))
        self.check((("add", "get"), ()), EARLY)
        self.check(ONE, steps(1, 2, 3) + (("no", 1), ("back", 1, 0)), 1, 2)
        self.check(ONE, steps(1, 2, 3) + (("no", 1), ("no", 2), ("back", 2, 1)), 2)

    def test_steps_of_one_transaction(self):
        both = (("do", 1, "add"), ("do", 1, "get"), ("no", 1))
        self.check((("add", "get"), ()), both + (("back", 1, 0),), 1)
        self.check((("add", "get"), ()), both + (("back", 1, 1),))
        self.check((("add", "get"), ()), both + (("back", 1, 1), ("back", 1, 0)))

    def test_a_later_step_that_a_fall_took_back(self):
        history = TWO + (("hear", ("dropped", 1)), ("fall",))
        self.assertIs(is_right(CELLS, history), True)
        again = (("do", 1, "add"), ("yes", 1, ()), ("do", 2, "get"), ("fall",), ("hear", ("dropped", 1)))
        self.check(CELLS, again + (("back", 1, 0),))

    def test_the_first_fault(self):
        self.assertEqual(judge_history(CELLS, EARLY + (("yes", 2, ()),)), ("wrong", 3, ("back", 0, 1)))
        self.assertEqual(judge_history(CELLS, BARE + (("no", 1), ("back", 1, 0))), ("wrong", 2, ("vote", 2, 1)))
        self.assertIs(history_holds(CELLS, BARE + (("no", 1), ("back", 1, 0)), ("wrong", 4, ("back", 0, 1))), False)


class RightNow(Case):
    def test_right_and_wrong(self):
        for history, expected in [((), True), (TWO, True), (BARE, False), (EARLY, False), (LENT, True),
                                  (BUILT + (("yes", 3, (2,)), ("yes", 1, ()), ("yes", 2, (1,))), True)]:
            self.assertIs(is_right_now(CELLS, history), expected, history)
            self.assertIs(is_right_now(history=history, table=CELLS), expected)

    def test_right_again(self):
        # The insufficient vote does no harm once it is known that its supporter is kept.
        again = BARE + (("yes", 1, ()), ("hear", ("firm", 1, ())))
        self.assertIs(is_right_now(CELLS, again), True)
        self.assertIs(is_right(CELLS, again), False)
        self.assertEqual(judge_history(CELLS, again), ("wrong", 2, ("vote", 2, 1)))
        self.assertIs(is_right_now(CELLS, BARE + (("hear", ("dropped", 2)), ("back", 2, 1))), True)

    def test_the_order_is_allowed(self):
        # 2 builds on 1, and 1 is conditioned on 2: whatever is kept, there is no allowed order.
        history = TWO + (("do", 1, "get"), ("yes", 2, ()), ("yes", 1, (2,)))
        self.assertIs(is_right_now(CELLS, history), False)
        self.assertIs(is_right_now((("add", "get"), ()), history), True)

    def test_the_order_goes_over_transactions_without_steps(self):
        # By the facts 1 comes after 3 and 3 after 2, while 2 builds on 1.
        history = TWO + (("yes", 1, ()), ("yes", 2, ()), ("hear", ("firm", 1, (3,))), ("hear", ("firm", 3, (2,))),
                         ("hear", ("firm", 2, ())))
        self.assertIs(is_right_now(CELLS, history), False)
        self.assertIs(is_right_now((("add", "get"), ()), history), True)


class Certificates(Case):
    def test_the_examples(self):
        for history in ((), TWO, LENT, BARE, EARLY, BARE + (("fall",),), BUILT + (("yes", 3, ()),)):
            right = sites.certificates(CELLS, history)
            self.assertIn(judge_history(CELLS, history), right)
            self.assertEqual(judge_history(history=history, table=CELLS), judge_history(CELLS, history))
            for thing in [*right, *plain_things(), ("right",), *altered(right[0])]:
                expected = thing in right and reference_like(thing, right[0])
                self.assertIs(history_holds(CELLS, history, thing), expected, (history, thing))
                self.assertIs(history_holds(thing=thing, history=history, table=CELLS), expected)

    def test_wrong_ones(self):
        for thing in [("right",), ("right", ()), ("wrong",), ("wrong", 2), ("wrong", 2, ("vote", 2, 1), ()),
                      ("wrong", 1, ("vote", 2, 1)), ("wrong", 3, ("vote", 2, 1)), ("wrong", 2, ("vote", 1, 2)),
                      ("wrong", 2, ("vote", 2, 2)), ("wrong", 2, ("vote", 2, True)), ("wrong", 2, ("vote", 2, 1, 1)),
                      ("wrong", 2, ("back", 2, 1)), ("wrong", 2, ("yes", 2, 1)), ["wrong", 2, ("vote", 2, 1)],
                      ("wrong", 2, ["vote", 2, 1]), ("wrong", "2", ("vote", 2, 1)), ("wrong", 2, ("vote", "2", 1)),
                      ("wrong", 2, ("vote", 2)), ("wrong", 2, ()), ("wrong", None, None), (None, 2, ("vote", 2, 1)),
                      ("wrong", 2, None), ("wrong", 2, 1), ("wrong", 2, {}), ("wrong", 2, "vote"), ("wrong", 2, True),
                      ("Wrong", 2, ("vote", 2, 1)), ("vote", 2, 1), ("wrong", 2, (["vote"], 2, 1)),
                      ("wrong", 2, ("vote", [2], 1)), ("wrong", 2, ("vote", 2, 0)), ("wrong", -1, ("vote", 2, 1))]:
            self.assertIs(history_holds(CELLS, BARE, thing), False, thing)
        self.assertIs(history_holds(CELLS, BARE, ("wrong", 2, ("vote", 2, 1))), True)

    def test_numbers_that_are_bools(self):
        history = (("do", 0, "a"), ("do", 1, "a"), ("yes", 1, ()))
        self.assertIs(history_holds(ONE, history, ("wrong", 2, ("vote", 1, 0))), True)
        for fault in (("vote", True, 0), ("vote", 1, False), ("vote", True, False)):
            self.assertIs(history_holds(ONE, history, ("wrong", 2, fault)), False)
        early = (("no", 1), ("do", 2, "a"), ("do", 2, "a"), ("no", 2), ("back", 2, 1))
        self.assertIs(history_holds(ONE, early, ("wrong", 4, ("back", 1, 2))), True)
        self.assertIs(history_holds(ONE, early, ("wrong", 4, ("back", True, 2))), False)


def reference_like(thing, other):
    """Whether two equal values have numbers in the same places, and tuples."""
    if type(other) is tuple:
        return type(thing) is tuple and all(reference_like(a, b) for a, b in zip(thing, other))
    return type(thing) is type(other)


class Due(Case):
    def test_supports(self):
        for table, history, expected in [
                (CELLS, (), ()), (CELLS, BUILT, ((1, 2), (2, 3))), (ONE, steps(3, 1, 2), ((1, 2), (3, 1), (3, 2))),
                (ONE, steps(1, 2, 1), ((1, 2), (2, 1))), (ONE, steps(1, 1), ()), (CELLS, LENT, ((1, 2),)),
                (CELLS, EARLY, ()), (CELLS, LENT + (("hear", ("firm", 1, ())),), ((1, 2),)),
                (CELLS, TWO + (("no", 1),), ((1, 2),)), (CELLS, TWO + (("fall",),), ()), (EMPTY, (), ())]:
            self.assertEqual(supports(table, history), expected)
            self.assertEqual(supports(history=history, table=table), expected)

    def test_full_conditions(self):
        for table, history, u, expected in [
                (CELLS, BUILT, 1, ()), (CELLS, BUILT, 2, (1,)), (CELLS, BUILT, 3, (2,)),
                (ONE, steps(3, 2, 1), 1, (2, 3)), (CELLS, TWO + (("no", 1),), 2, (1,)), (CELLS, EARLY, 2, ()),
                (ONE, steps(1) + (("yes", 1, ()), ("hear", ("firm", 1, ()))) + steps(2, 3), 3, (2,))]:
            self.assertEqual(full_conditions(table, history, u), expected)
            self.assertEqual(full_conditions(u=u, history=history, table=table), expected)
            self.sufficient(table, history, u, expected)

    def test_least_conditions(self):
        ten = (("do", 1, "add"), ("do", 2, "add"), ("do", 3, "get"), ("yes", 1, ()), ("yes", 2, ()))
        for table, history, u, expected in [
                (CELLS, BUILT, 1, [()]), (CELLS, BUILT, 2, [(1,), (3,)]), (CELLS, BUILT, 3, [(2,)]),
                (ONE, steps(1, 2, 3, 4, 5), 5, [(4,)]), (CELLS, EARLY, 2, [()]), (CELLS, ten, 3, [(1, 2)]),
                (CELLS, ten + (("hear", ("firm", 1, (2,))),), 3, [(1,), (2,)]),
                (CELLS, ten + (("hear", ("firm", 1, ())),), 3, [(2,)]),
                (CELLS, ten + (("hear", ("firm", 1, ())), ("hear", ("firm", 2, ()))), 3, [()]),
                (CELLS, ten + (("hear", ("firm", 1, (6,))),), 3, [(1, 2)]),
                # A lost one makes the vote hopeless, though it does not support.
                (CELLS, ten + (("do", 4, "get"), ("no", 4)), 3, [(4,)])]:
            self.assertIn(least_conditions(table, history, u), expected)
            self.assertEqual(least_conditions(u=u, history=history, table=table), least_conditions(table, history, u))
            self.sufficient(table, history, u, *expected)
            for conditions in reference.subsets(range(1, 7)):
                if len(conditions) < len(expected[0]):
                    self.assertIs(is_sufficient(table, history, u, conditions), False)

    def test_conditions_are_possible(self):
        for history in (BUILT, BUILT + (("no", 1),), BUILT + (("yes", 1, ()),)):
            for conditions in (full_conditions(CELLS, history, 3), least_conditions(CELLS, history, 3)):
                self.assertIs(is_event(CELLS, history, ("yes", 3, conditions)), True)


class WrongInputs(Case):
    WITH_U = (full_conditions, least_conditions)

    def raises(self, error, thing, call):
        with self.assertRaises(error) as caught:
            call()
        self.assertIs(caught.exception.thing, thing)

    def test_no_table(self):
        for thing in NO_TABLES:
            for function in (is_right_now, is_right, judge_history, supports):
                self.raises(BadTable, thing, lambda: function(thing, None))
                self.raises(BadTable, thing, lambda: function(history=(), table=thing))
            for function in self.WITH_U:
                self.raises(BadTable, thing, lambda: function(thing, None, None))
                self.raises(BadTable, thing, lambda: function(u=1, history=(), table=thing))
            self.raises(BadTable, thing, lambda: history_holds(thing, None, None))
            self.raises(BadTable, thing, lambda: history_holds(thing=("right",), history=(), table=thing))
            self.raises(BadTable, thing, lambda: is_sufficient(thing, None, None, None))
            self.raises(BadTable, thing, lambda: is_sufficient(thing=(), u=1, history=TWO, table=thing))

    def test_no_history(self):
        for thing in NO_HISTORIES:
            for function in (is_right_now, is_right, judge_history, supports):
                self.raises(BadHistory, thing, lambda: function(CELLS, thing))
                self.raises(BadHistory, thing, lambda: function(history=thing, table=CELLS))
            for function in self.WITH_U:
                self.raises(BadHistory, thing, lambda: function(CELLS, thing, None))
                self.raises(BadHistory, thing, lambda: function(u=1, history=thing, table=CELLS))
            self.raises(BadHistory, thing, lambda: history_holds(CELLS, thing, None))
            self.raises(BadHistory, thing, lambda: history_holds(thing=("right",), history=thing, table=CELLS))
            self.raises(BadHistory, thing, lambda: is_sufficient(CELLS, thing, None, None))
            self.raises(BadHistory, thing, lambda: is_sufficient(thing=(), u=1, history=thing, table=CELLS))

    def test_not_active(self):
        mixed = BUILT + (("do", 4, "get"), ("do", 5, "add"), ("yes", 1, ()), ("no", 2), ("hear", ("dropped", 3)),
                         ("hear", ("firm", 1, ())), ("hear", ("firm", 6, ())), ("no", 7))
        cases = [(mixed, u) for u in (0, 1, 2, 3, 6, 7, 8)]
        cases += [(TWO + (("fall",),), 1), ((), 1), (LENT, 1), (LENT, 2)]
        cases += [(mixed, thing) for thing in NO_TRANSACTIONS] + [((("do", 1, "add"),), True)]
        cases += [(TWO, thing) for thing in plain_things() if type(thing) is not int]
        for history, u in cases:
            for function in self.WITH_U:
                self.raises(BadTransaction, u, lambda: function(CELLS, history, u))
                self.raises(BadTransaction, u, lambda: function(u=u, history=history, table=CELLS))
            self.raises(BadTransaction, u, lambda: is_sufficient(CELLS, history, u, ()))
            self.raises(BadTransaction, u, lambda: is_sufficient(thing=None, u=u, history=history, table=CELLS))
        for u in (4, 5):
            self.assertIs(type(full_conditions(CELLS, mixed, u)), tuple)


if __name__ == "__main__":
    unittest.main()
