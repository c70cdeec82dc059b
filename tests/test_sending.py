"""States of sites, messages, what a site does with each of them, falls and restarts (part 9)."""

import unittest
from random import Random

from tests import making_logs as making
from tests import reference_logs as logs
from tests.cases import Raising
from tests.test_logs import ADD, GET, LOG, NO_LOGS, OTHER, VOTED
from tests.things import altered, plain_things
from yesifs.errors import BadMany, BadMessage, BadRows, BadSite, BadState, BadTransaction
from yesifs.logs import is_log, restart_rows, settle_rows
from yesifs.sending import (fallen, goes_to, is_message, is_state, leader_of, new_state, received, restarted)

NO_MANY = [0, 5, -1, 10 ** 39, True, False, None, "2", (2,), [2], {}, 2.0, *[
    thing for thing in plain_things() if type(thing) is not int or thing not in (1, 2, 3, 4)]]
# For two sites.
NO_SITES = [-1, 2, 3, 4, True, False, None, "0", (0,), [0], {}, 10 ** 39]
EMPTY = ((), 0, ())
ASKED = (2, ((0, 1), (1, 2)), (), True)
HALF = (2, ((0, 1), (1, 2)), ((1, (3, 5)),), True)
UNASKED = (2, ((0, 1),), (), False)
MESSAGES = [("ask", 0, 0, 1), ("ask", 3, 1, 30), ("vote", 2, 1, ()), ("vote", 2, 1, (1, 3)), ("vote", 3, 0, None),
            ("tell", ("firm", 2, (1,)), 1), ("tell", ("dropped", 2), 0), ("what", 0), ("what", 10 ** 39)]
NO_MESSAGES = [
    (), ("ask",), ("ask", 1), ("ask", 1, 0), ("ask", 1, 0, 0), ("ask", 1, 0, -1), ("ask", 1, 0, True),
    ("ask", 1, 0, None), ("ask", 1, 0, "1"), ("ask", 1, 2, 1), ("ask", 1, -1, 1), ("ask", 1, True, 1),
    ("ask", True, 0, 1), ("ask", -1, 0, 1), ("ask", 1, 0, 1, 1), ("ask", 1, 0, ()), ("vote", 1, 0), ("vote", 1, 0, 1),
    ("vote", 1, 0, (1,)), ("vote", 1, 0, (3, 2)), ("vote", 1, 0, (2, 2)), ("vote", 1, 0, (True,)), ("vote", 1, 0, [2]),
    ("vote", 1, 2, ()), ("vote", True, 0, ()), ("vote", 1, False, ()), ("vote", 1, 0, False), ("vote", 1, 0, "no"),
    ("vote", 1, 0, (), ()), ("tell",), ("tell", ("dropped", 2)), ("tell", ("dropped", 2), 2), ("tell", ("dropped", 2), True),
    ("tell", ("dropped", True), 0), ("tell", ("firm", 2), 0), ("tell", ("firm", 2, [1]), 0), ("tell", 2, 0),
    ("tell", ["dropped", 2], 0), ("tell", ("dropped", 2), 0, 0), ("tell", ("dropped", 2), None), ("what",), ("what", -1),
    ("what", True), ("what", "1"), ("what", 1, 0), ("what", 1, 0, 1), ("what", None), ["what", 1], "what", ("What", 1),
    ("hear", 1), ("tells", ("dropped", 2), 0), (("what", 1),), (None, 1), ([], 1), ("ask", [1], 0, 1)]


def log_of(*rows):
    assert logs.is_log(rows), rows
    return rows


class Case(Raising):
    def states(self, expected, many, here, *things):
        for thing in things:
            self.assertIs(is_state(many, here, thing), expected, thing)
            self.assertIs(is_state(thing=thing, here=here, many=many), expected)
            self.assertIs(logs.is_state(many, here, thing), expected, thing)

    def receives(self, many, here, state, message, expected, *sent):
        found = received(many, here, state, message)
        self.assertEqual(found, (expected, sent))
        self.assertEqual(received(message=message, state=state, here=here, many=many), found)
        self.assertEqual(logs.received(many, here, state, message), found)
        self.assertIs(is_state(many, here, found[0]), True)


class States(Case):
    def test_new_states(self):
        for many in (1, 2, 3, 4):
            for here in range(many):
                self.assertEqual(new_state(many, here), EMPTY)
                self.assertEqual(new_state(here=here, many=many), EMPTY)
                self.states(True, many, here, EMPTY)

    def test_forced_rows(self):
        for log in ((), LOG, VOTED):
            for forced in range(-2, 9):
                self.states(0 <= forced <= len(log), 2, 0, (log, forced, ()))
        self.states(False, 2, 0, (LOG, True, ()), (LOG, None, ()), (LOG, "1", ()), (LOG, (1,), ()), ((), False, ()))

    def test_logs(self):
        self.states(False, 2, 0, *[(thing, 0, ()) for thing in NO_LOGS])
        self.states(False, 2, 0, (LOG, 0), (LOG, 0, (), ()), [LOG, 0, ()], LOG, (0, LOG, ()), (LOG, (), 0), (), None)

    def test_desks(self):
        self.states(True, 2, 0, (LOG, 1, (ASKED,)), ((), 0, (HALF,)), ((), 0, (UNASKED,)), (VOTED, 5, (HALF,)),
                    ((), 0, ((2, (), (), False),)), ((), 0, ((2, (), (), True),)),
                    ((), 0, ((0, (), (), False), ASKED, (4, (), (), True), (10 ** 39, ((1, 60),), (), False))),
                    ((), 0, ((2, ((0, 1), (1, 2)), ((0, ()), (1, (3, 5))), True),)))
        self.states(True, 1, 0, ((), 0, ((0, (), (), False), (1, (), (), False), (2, (), (), False))))
        self.states(True, 4, 3, ((), 0, ((3, ((0, 1), (3, 1)), (), True), (7, (), (), False))))

    def test_desks_that_are_none(self):
        four = (4, (), (), False)
        self.states(False, 2, 0, ((), 0, (four, ASKED)), ((), 0, (ASKED, ASKED)), ((), 0, (ASKED, UNASKED)),
                    ((), 0, [ASKED]), ((), 0, ASKED), ((), 0, None), ((), 0, 0), ((), 0, {}), ((), 0, (None,)),
                    ((), 0, (ASKED[:3],)), ((), 0, (ASKED + ((),),)), ((), 0, ([*ASKED],)), ((), 0, (ASKED, None)))
        # Another leader, no transaction, a fact in the log.
        self.states(False, 2, 1, ((), 0, (ASKED,)))
        self.states(False, 2, 0, *[((), 0, ((t, (), (), False),)) for t in (1, 3, -2, True, False, None, "2", (2,))])
        self.states(False, 4, 0, ((), 0, ((2, (), (), False),)))
        for fact in (("dropped", 2), ("firm", 2, ())):
            self.states(False, 2, 0, ((("hear", fact),), 0, (ASKED,)))
            self.states(True, 2, 0, ((("hear", fact),), 0, (four,)))

    def test_counts_that_are_none(self):
        for counts in [((1, 1), (0, 1)), ((0, 1), (0, 2)), ((0, 0),), ((0, -1),), ((2, 1),), ((-1, 1),), ((True, 1),),
                       ((0, True),), ((0, None),), ((0,),), ((0, 1, 1),), (0, 1), [(0, 1)], ([0, 1],), None, 1, {0: 1},
                       ((0, 1), None), (("0", 1),), ((None, 1),), (([], 1),), ((0, []),)]:
            for is_asked in (True, False):
                self.states(False, 2, 0, ((), 0, ((2, counts, (), is_asked),)))

    def test_votes_that_are_none(self):
        for votes in [((1, ()), (0, ())), ((0, ()), (0, (1,))), ((2, ()),), ((0, (2,)),), ((0, (3, 1)),), ((0, (1, 1)),),
                      ((0, (True,)),), ((0, [1]),), ((0, None),), ((0, 1),), ((0,),), ((0, (), ()),), (0, ()), [(0, ())],
                      ([0, ()],), ((False, ()),), ((True, ()),), None, 1, {}, ((None, ()),), (([], ()),)]:
            self.states(False, 2, 0, ((), 0, ((2, ((0, 1), (1, 1)), votes, True),)))
        # A vote of a site without counts, and votes where nobody asked.
        self.states(False, 2, 0, ((), 0, ((2, ((0, 1),), ((1, ()),), True),)), ((), 0, ((2, (), ((0, ()),), True),)))
        self.states(False, 2, 0, ((), 0, (HALF[:3] + (False,),)), ((), 0, ((2, ((0, 1),), ((0, ()),), False),)))
        for is_asked in (1, 0, None, "True", (), [True]):
            self.states(False, 2, 0, ((), 0, ((2, ((0, 1),), (), is_asked),)))

    def test_any_values(self):
        self.states(False, 2, 0, *plain_things())
        state = (VOTED, 4, (HALF, (4, (), (), False)))
        self.states(True, 2, 0, state)
        for thing in altered(state):
            self.states(logs.is_state(2, 0, thing), 2, 0, thing)


class Messages(Case):
    def test_messages(self):
        for message in MESSAGES:
            self.assertIs(is_message(2, message), True, message)
            self.assertIs(is_message(thing=message, many=4), True)
        self.assertEqual([goes_to(2, message) for message in MESSAGES], [0, 1, 0, 0, 1, 1, 0, 0, 0])
        self.assertEqual([goes_to(message=message, many=4) for message in MESSAGES], [0, 1, 2, 2, 3, 1, 0, 0, 0])
        self.assertIs(is_message(3, ("ask", 1, 2, 1)), True)
        self.assertIs(is_message(1, ("ask", 1, 1, 1)), False)
        self.assertEqual(goes_to(1, ("vote", 7, 0, None)), 0)

    def test_values_that_are_no_messages(self):
        for thing in NO_MESSAGES + plain_things():
            self.assertIs(is_message(2, thing), False, thing)
            self.raises(BadMessage, thing, lambda: goes_to(2, thing), lambda: goes_to(message=thing, many=2))
            for here in (0, 1):
                self.raises(BadMessage, thing, lambda: received(2, here, EMPTY, thing),
                            lambda: received(message=thing, state=EMPTY, here=here, many=2))

    def test_altered_messages(self):
        for message in MESSAGES:
            for thing in altered(message):
                self.assertIs(is_message(2, thing), logs.is_message(2, thing), thing)

    def test_messages_for_another_site(self):
        for message in MESSAGES:
            for many in (2, 3, 4):
                for here in range(many):
                    if here != logs.goes_to(many, message):
                        self.raises(BadMessage, message, lambda: received(many, here, EMPTY, message))

    def test_leaders(self):
        self.assertEqual([leader_of(2, t) for t in range(5)], [0, 1, 0, 1, 0])
        self.assertEqual([leader_of(t=t, many=3) for t in range(5)], [0, 1, 2, 0, 1])
        self.assertEqual([leader_of(1, 7), leader_of(4, 10 ** 39 + 3)], [0, 3])
        for t in (-1, True, None, "1", (1,), [1], *[thing for thing in plain_things() if type(thing) is not int]):
            self.raises(BadTransaction, t, lambda: leader_of(2, t), lambda: leader_of(t=t, many=2))


class Ask(Case):
    def test_a_vote_is_given(self):
        self.receives(2, 0, (LOG, 0, ()), ("ask", 2, 0, 1), (LOG + (("yes", 2, (1,)),), 4, ()), ("vote", 2, 0, (1,)))
        self.receives(2, 0, (LOG, 2, (UNASKED,)), ("ask", 1, 0, 1), (LOG + (("yes", 1, ()),), 4, (UNASKED,)),
                      ("vote", 1, 0, ()))

    def test_a_vote_that_was_given(self):
        voted = (LOG + (("yes", 2, (1,)),), 1, ())
        for count in (1, 2, 30):
            self.receives(2, 0, voted, ("ask", 2, 0, count), voted, ("vote", 2, 0, (1,)))
        # Whatever became of the transaction.
        lost = (LOG + (("yes", 2, (1,)), ("no", 1), ("back", 2, 1), ("back", 1, 0)), 4, ())
        self.receives(2, 0, lost, ("ask", 2, 0, 1), lost, ("vote", 2, 0, (1,)))
        kept = (VOTED + (("hear", ("firm", 1, ())),), 0, ())
        self.receives(2, 0, kept, ("ask", 1, 0, 1), kept, ("vote", 1, 0, ()))
        dropped = (VOTED + (("hear", ("dropped", 1)),), 0, ())
        self.receives(2, 0, dropped, ("ask", 1, 0, 5), dropped, ("vote", 1, 0, ()))

    def test_another_count(self):
        state = (LOG + (("do", 2, OTHER, 1),), 0, ())
        for count in (1, 3, 4, 60):
            self.receives(2, 0, state, ("ask", 2, 0, count), state, ("vote", 2, 0, None))
        self.receives(2, 0, state, ("ask", 2, 0, 2), (state[0] + (("yes", 2, (1,)),), 5, ()), ("vote", 2, 0, (1,)))

    def test_no_active_transaction(self):
        for log in ((), LOG):
            self.receives(2, 0, (log, 0, ()), ("ask", 7, 0, 1), (log, 0, ()), ("vote", 7, 0, None))
        for row in (("no", 2), ("hear", ("dropped", 2))):
            state = (LOG + (row,), 0, ())
            self.receives(2, 0, state, ("ask", 2, 0, 1), state, ("vote", 2, 0, None))
        gone = (LOG + (("no", 2), ("back", 2, 1)), 5, ())
        self.receives(2, 0, gone, ("ask", 2, 0, 1), gone, ("vote", 2, 0, None))
        kept = ((("hear", ("firm", 2, ())),), 1, ())
        self.receives(2, 0, kept, ("ask", 2, 0, 1), kept, ("vote", 2, 0, None))


class Vote(Case):
    def test_the_fact_is_in_the_log(self):
        for fact in (("dropped", 2), ("firm", 2, (3,))):
            state = ((("hear", fact),), 0, ())
            for conditions in ((), (3,), None):
                for s in (0, 1, 2):
                    self.receives(3, 2, state, ("vote", 2, s, conditions), state, ("tell", fact, s))

    def test_no_entry(self):
        after = ((("hear", ("dropped", 2)),), 1, ())
        for conditions in ((), (1,), None):
            self.receives(2, 0, EMPTY, ("vote", 2, 1, conditions), after, ("tell", ("dropped", 2), 1))
        self.receives(1, 0, EMPTY, ("vote", 2, 0, ()), after)
        self.receives(4, 2, EMPTY, ("vote", 2, 2, ()), after, *[("tell", ("dropped", 2), s) for s in (0, 1, 3)])
        # An entry of another transaction stays.
        other = (4, (), (), False)
        self.receives(2, 0, ((), 0, (other,)), ("vote", 2, 1, ()), (after[0], 1, (other,)), ("tell", ("dropped", 2), 1))

    def test_a_vote_against(self):
        for entry in (ASKED, HALF, UNASKED, (2, (), (), False)):
            for s in (0, 1):
                self.receives(2, 0, (LOG[:1], 0, (entry,)), ("vote", 2, s, None),
                              (LOG[:1] + (("hear", ("dropped", 2)),), 2, ()), ("tell", ("dropped", 2), 1))

    def test_a_vote_is_counted(self):
        self.receives(2, 0, ((), 0, (ASKED,)), ("vote", 2, 1, (3, 5)), ((), 0, (HALF,)))
        self.receives(2, 0, (LOG, 1, (ASKED,)), ("vote", 2, 0, ()),
                      (LOG, 1, (ASKED[:2] + (((0, ()),), True),)))

    def test_the_last_vote(self):
        fact = ("firm", 2, (1, 3, 5))
        log = log_of(("do", 1, ADD, 0), ("do", 2, GET, 5), ("yes", 2, (1,)))
        self.receives(2, 0, (log, 0, (HALF,)), ("vote", 2, 0, (1,)), (log + (("hear", fact),), 4, ()),
                      ("tell", fact, 1))
        # The leader need not have a step.
        fact = ("firm", 2, ())
        self.receives(3, 2, ((), 0, ((2, ((0, 1),), (), True),)), ("vote", 2, 0, ()), ((("hear", fact),), 1, ()),
                      ("tell", fact, 0), ("tell", fact, 1))
        # Settling writes rows that are not forced: 1 makes a ring with 2.
        log = log_of(("do", 1, ADD, 0), ("do", 2, GET, 5), ("yes", 2, (1,)), ("yes", 1, ()))
        fact = ("firm", 1, (2,))
        self.receives(1, 0, (log, 4, ((1, ((0, 1),), (), True),)), ("vote", 1, 0, (2,)),
                      (log + (("hear", fact), ("back", 2, 1), ("back", 1, 0)), 5, ()))

    def test_an_entry_that_is_not_asked(self):
        for entry in (UNASKED, (2, (), (), False)):
            state = ((), 0, (entry,))
            for s in (0, 1):
                self.receives(2, 0, state, ("vote", 2, s, ()), state)

    def test_a_site_that_is_not_counted(self):
        for entry in ((2, ((0, 1),), (), True), (2, (), (), True)):
            self.receives(2, 0, ((), 0, (entry,)), ("vote", 2, 1, ()), ((), 0, (entry,)))

    def test_a_second_vote(self):
        for conditions in ((), (3, 5), (7,)):
            self.receives(2, 0, ((), 0, (HALF,)), ("vote", 2, 1, conditions), ((), 0, (HALF,)))

    def test_a_fact_that_cannot_be_heard(self):
        # The leader has a step and no vote, a vote on more conditions, or voted against.
        full = (2, ((1, 2),), ((1, (3, 5)),), True)
        for log in (log_of(("do", 2, GET, 0)), log_of(("do", 2, GET, 0), ("no", 2)),
                    log_of(("do", 1, ADD, 0), ("do", 2, GET, 5), ("yes", 2, (1,)))):
            state = (log, 0, ((2, ((1, 2),), (), True),))
            self.receives(2, 0, state, ("vote", 2, 1, (3, 5)), (log, 0, (full,)))
            self.receives(2, 0, (log, 0, (full,)), ("vote", 2, 1, (3, 5)), (log, 0, (full,)))
            self.assertEqual(received(2, 0, (log, 0, (full,)), ("vote", 2, 1, None))[0][2], ())

    def test_deciding_refuses_an_active_transaction(self):
        after = LOG + (("no", 2), ("back", 2, 1), ("hear", ("dropped", 2)))
        for state in ((LOG, 0, ()), (LOG, 0, (UNASKED,)), (LOG, 3, (HALF,))):
            self.receives(2, 0, state, ("vote", 2, 1, None), (after, 6, ()), ("tell", ("dropped", 2), 1))
        drawn = log_of(("do", 2, ADD, 0), ("do", 3, GET, 5))
        self.receives(2, 0, (drawn, 0, ()), ("vote", 2, 1, ()),
                      (drawn + (("no", 2), ("no", 3), ("back", 3, 1), ("back", 2, 0), ("hear", ("dropped", 2))), 7, ()),
                      ("tell", ("dropped", 2), 1))

    def test_deciding_on_a_voted_transaction(self):
        # There is no "no" row for it; what settling writes is not forced.
        log = log_of(("do", 2, ADD, 0), ("do", 3, GET, 5), ("yes", 2, ()))
        self.receives(2, 0, (log, 0, (ASKED,)), ("vote", 2, 1, None),
                      (log + (("hear", ("dropped", 2)), ("no", 3), ("back", 3, 1), ("back", 2, 0)), 4, ()),
                      ("tell", ("dropped", 2), 1))


class Tell(Case):
    def test_a_fact_is_heard(self):
        self.receives(2, 1, EMPTY, ("tell", ("dropped", 2), 1), ((("hear", ("dropped", 2)),), 0, ()))
        self.receives(2, 1, (VOTED, 5, ()), ("tell", ("firm", 1, ()), 1), (VOTED + (("hear", ("firm", 1, ())),), 5, ()))
        self.receives(2, 0, (VOTED, 2, (ASKED,)), ("tell", ("dropped", 1), 0),
                      (VOTED + (("hear", ("dropped", 1)), ("back", 2, 1), ("back", 1, 0)), 2, (ASKED,)))

    def test_settling_refuses(self):
        log = LOG + (("yes", 1, ()),)
        self.receives(2, 1, (log, 4, ()), ("tell", ("dropped", 1), 1),
                      (log + (("hear", ("dropped", 1)), ("no", 2), ("back", 2, 1), ("back", 1, 0)), 4, ()))
        self.receives(2, 1, (LOG, 0, ()), ("tell", ("dropped", 2), 1),
                      (LOG + (("hear", ("dropped", 2)), ("back", 2, 1)), 0, ()))

    def test_the_entry_is_taken(self):
        other = (4, (), (), False)
        for fact in (("dropped", 2), ("firm", 2, ())):
            self.receives(2, 0, ((), 0, (HALF, other)), ("tell", fact, 0), ((("hear", fact),), 0, (other,)))

    def test_a_fact_that_cannot_be_heard(self):
        for state, fact in [((LOG, 1, (UNASKED,)), ("firm", 2, (1,))), ((VOTED, 0, (UNASKED,)), ("firm", 2, ())),
                            ((LOG + (("no", 2),), 0, (UNASKED,)), ("firm", 2, ())),
                            (((("hear", ("dropped", 2)),), 1, ()), ("dropped", 2)),
                            (((("hear", ("dropped", 2)),), 1, ()), ("firm", 2, ())),
                            (((("hear", ("firm", 2, ())),), 0, ()), ("firm", 2, ())),
                            (((("hear", ("firm", 2, ())),), 0, ()), ("firm", 2, (1,)))]:
            self.receives(2, 0, state, ("tell", fact, 0), state)


class What(Case):
    def test_the_fact_is_in_the_log(self):
        for fact in (("dropped", 2), ("firm", 2, (1, 3))):
            state = ((("hear", fact),), 0, ())
            self.receives(4, 2, state, ("what", 2), state, *[("tell", fact, s) for s in (0, 1, 3)])
            self.receives(1, 0, state, ("what", 2), state)

    def test_an_entry(self):
        for entry in (ASKED, HALF, UNASKED):
            self.receives(2, 0, (LOG, 1, (entry,)), ("what", 2), (LOG, 1, (entry,)))

    def test_no_entry(self):
        self.receives(2, 0, EMPTY, ("what", 2), ((("hear", ("dropped", 2)),), 1, ()), ("tell", ("dropped", 2), 1))
        after = LOG + (("no", 2), ("back", 2, 1), ("hear", ("dropped", 2)))
        self.receives(2, 0, (LOG, 0, ()), ("what", 2), (after, 6, ()), ("tell", ("dropped", 2), 1))


class Again(Case):
    def test_a_message_that_comes_again(self):
        random = Random(92)
        for n in range(300):
            many = random.randint(1, 4)
            here = random.randrange(many)
            state = making.random_state(random, many, here, 8, 4)
            message = making.random_message(random, many, state[0], 4)
            if logs.goes_to(many, message) == here:
                once, sent = received(many, here, state, message)
                twice, again = received(many, here, once, message)
                self.assertEqual(twice, once)
                if message[0] == "ask":
                    self.assertEqual(again, sent)


class Falls(Case):
    def test_each_number_of_rows(self):
        for forced in range(6):
            for rows in range(forced, 6):
                state = (VOTED, forced, (UNASKED,))
                self.assertEqual(fallen(2, 0, state, rows), (VOTED[:rows], forced, ()))
                self.assertEqual(fallen(rows=rows, state=state, here=0, many=2), (VOTED[:rows], forced, ()))
            for rows in [*range(forced), -1, 6, 7, 10 ** 39, True, False, None, "3", (3,), [3], {}, 3.0]:
                self.raises(BadRows, rows, lambda: fallen(2, 0, (VOTED, forced, ()), rows),
                            lambda: fallen(rows=rows, state=(VOTED, forced, ()), here=0, many=2))
        self.assertEqual(fallen(2, 0, EMPTY, 0), EMPTY)
        for thing in plain_things():
            if type(thing) is not int or thing != 0:
                self.raises(BadRows, thing, lambda: fallen(2, 0, EMPTY, thing))

    def test_restarts(self):
        self.assertEqual(restarted(2, 0, (VOTED, 3, (UNASKED,))),
                         (VOTED + (("no", 3), ("back", 3, 2)), 7, (UNASKED,)))
        self.assertEqual(restarted(state=EMPTY, here=0, many=2), EMPTY)
        self.assertEqual(restarted(2, 0, (LOG, 0, ())),
                         (LOG + (("no", 1), ("no", 2), ("no", 3), ("back", 3, 2), ("back", 2, 1), ("back", 1, 0)), 9, ()))

    def test_random_states(self):
        random = Random(93)
        for n in range(200):
            many = random.randint(1, 4)
            here = random.randrange(many)
            state = making.random_state(random, many, here, 10, 4)
            self.states(True, many, here, state)
            rows = random.randint(state[1], len(state[0]))
            down = fallen(many, here, state, rows)
            self.assertEqual(down, (state[0][:rows], state[1], ()))
            self.states(True, many, here, down)
            for one in (state, down):
                after = restarted(many, here, one)
                self.assertEqual(after, logs.restarted(one))
                self.assertEqual(after[0], one[0] + restart_rows(one[0]))
                self.assertEqual(after[1:], (len(after[0]), one[2]))
                self.states(True, many, here, after)
                self.assertEqual(restarted(many, here, after), after)


class Compared(Case):
    def test_random_messages(self):
        random = Random(94)
        changed = {}
        for n in range(2500):
            many = random.randint(1, 4)
            here = random.randrange(many)
            state = making.random_state(random, many, here, 9, 4)
            message = making.random_message(random, many, state[0], 4)
            if logs.goes_to(many, message) != here:
                self.raises(BadMessage, message, lambda: received(many, here, state, message))
                continue
            expected, sent = logs.received(many, here, state, message)
            self.receives(many, here, state, message, expected, *sent)
            self.assertEqual(expected[0][:len(state[0])], state[0])
            self.assertIs(is_log(expected[0]), True)
            if expected != state and message[0] != "ask":
                self.assertEqual(settle_rows(expected[0]) if expected[0] != state[0] else (), ())
            key = (message[0], expected[0] != state[0], expected[2] != state[2], len(sent) > 0)
            changed[key] = changed.get(key, 0) + 1
        # Each kind of message changed something and changed nothing.
        self.assertEqual({key[:2] for key in changed},
                         {(word, is_changed) for word in ("ask", "vote", "tell", "what") for is_changed in (True, False)})


class WrongInputs(Case):
    def test_many(self):
        for thing in NO_MANY:
            self.raises(BadMany, thing, lambda: is_state(thing, None, None), lambda: new_state(thing, None),
                        lambda: is_message(thing, None), lambda: goes_to(thing, None), lambda: leader_of(thing, None),
                        lambda: received(thing, None, None, None), lambda: fallen(thing, None, None, None),
                        lambda: restarted(thing, None, None), lambda: new_state(here=0, many=thing))

    def test_here(self):
        for thing in NO_SITES + [one for one in plain_things() if type(one) is not int or one not in (0, 1)]:
            self.raises(BadSite, thing, lambda: is_state(2, thing, None), lambda: new_state(2, thing),
                        lambda: received(2, thing, None, None), lambda: fallen(2, thing, None, None),
                        lambda: restarted(2, thing, None), lambda: new_state(here=thing, many=2))
        self.assertEqual(new_state(3, 2), EMPTY)
        self.raises(BadSite, 1, lambda: new_state(1, 1))

    def test_states(self):
        for thing in [*plain_things(), (LOG, 4, ()), (LOG, 0, (HALF, HALF)), (NO_LOGS[-1], 0, ()), (LOG, True, ())]:
            self.raises(BadState, thing, lambda: received(2, 0, thing, None), lambda: fallen(2, 0, thing, None),
                        lambda: restarted(2, 0, thing), lambda: restarted(state=thing, here=0, many=2),
                        lambda: received(2, 0, thing, ("what", 1)), lambda: fallen(2, 0, thing, -1))
        # A state of one site is none of another one.
        state = ((), 0, (ASKED,))
        self.raises(BadState, state, lambda: restarted(2, 1, state), lambda: fallen(4, 0, state, 0))


if __name__ == "__main__":
    unittest.main()
