"""Inputs at the limits of parts 3 to 6: the answers are right, and each call ends within a few seconds."""

import time
import unittest

from tests.test_facts import BACKWARDS, FULL
from yesifs import judge, parts, runs, sites

KINDS = tuple("abcdefghijkl")
DENSE = (KINDS, tuple([(one, other) for one in KINDS for other in KINDS if one <= other]))
FREE = (KINDS, ())
# Kinds beside each other conflict.
CHAIN = (KINDS, tuple(zip(KINDS, KINDS[1:])))
SECONDS = 3


def turns(many):
    """Steps of eight transactions by turns."""
    return tuple([("do", i % 8, KINDS[i % 12]) for i in range(many)])


def blocks(many):
    """As many steps of each of eight transactions, one transaction after another."""
    return tuple([("do", i * 8 // many, KINDS[i % 12]) for i in range(many)])


def votes(conditions_of):
    return tuple([("yes", t, conditions_of(t)) for t in range(8)])


def below(t):
    return tuple(range(t))


def nothing(t):
    return ()


ALL = [steps(52) + votes(conditions_of) for steps in (turns, blocks) for conditions_of in (below, nothing)] + [
    turns(60), blocks(60), turns(30) + (("fall",),) * 30, blocks(44) + votes(below) + tuple(
        [("hear", ("firm", t, below(t))) for t in range(8)])]
ALL += [turns(28) + tuple([("no", t) for t in range(4)]) + tuple(
    [("back", i % 8, i) for i in reversed(range(28)) if i % 8 < 4]) + tuple([("yes", t, ()) for t in range(4, 8)])]


class Case(unittest.TestCase):
    def timed(self, function, *values):
        start = time.perf_counter()
        found = function(*values)
        self.assertLess(time.perf_counter() - start, SECONDS, function.__name__)
        return found


class Parts(Case):
    def test_forty_facts(self):
        for facts in (FULL, BACKWARDS[:39] + (("dropped", 39),), (("dropped", 0),) + FULL[1:]):
            for t in (0, 11, 12, 39):
                found = self.timed(parts.reason, facts, t)
                self.assertIs(self.timed(parts.is_reason, facts, t, found), True)
                self.timed(parts.is_reason, facts, t, facts)
            self.assertEqual(self.timed(parts.merged, facts[:30], facts[10:]), facts)
            self.assertIs(self.timed(parts.are_same_fates, facts, facts), True)


class Histories(Case):
    def test_sixty_events(self):
        for table in (DENSE, FREE, CHAIN):
            for history in ALL:
                self.assertIs(self.timed(sites.is_history, table, history), True, history)
                self.assertIs(self.timed(sites.is_event, table, history[:-1], history[-1]), True)
                for function in (sites.known_kept, sites.lost, sites.word_of, judge.supports):
                    self.timed(function, table, history)
                found = self.timed(sites.outcomes, table, history)
                self.assertGreaterEqual(len(found), 1)
                self.timed(sites.settled, table, history, found[-1])
                self.timed(judge.is_right_now, table, history)
                certificate = self.timed(judge.judge_history, table, history)
                self.assertIs(self.timed(judge.history_holds, table, history, certificate), True)
                self.assertIs(self.timed(judge.is_right, table, history), certificate == ("right",))
                for u in range(8):
                    if self.timed(sites.state_of, table, history, u) == "active":
                        full = self.timed(judge.full_conditions, table, history, u)
                        least = self.timed(judge.least_conditions, table, history, u)
                        self.assertIs(self.timed(judge.is_sufficient, table, history, u, full), True)
                        self.assertIs(self.timed(judge.is_sufficient, table, history, u, least), True)
                        self.assertLessEqual(len(least), len(full))

    def test_answers(self):
        right = blocks(52) + votes(below)
        self.assertIs(judge.is_right(DENSE, right), True)
        self.assertIs(judge.is_right_now(DENSE, right), True)
        self.assertEqual(sites.outcomes(DENSE, right), tuple([below(t) for t in range(9)]))
        wrong = blocks(52) + votes(nothing)
        self.assertEqual(judge.judge_history(DENSE, wrong), ("wrong", 53, ("vote", 1, 0)))
        self.assertIs(judge.is_right_now(DENSE, wrong), False)
        self.assertEqual(len(sites.outcomes(DENSE, wrong)), 256)
        self.assertIs(judge.is_right(FREE, wrong), True)
        self.assertIs(judge.is_right_now(FREE, wrong), True)
        self.assertEqual(judge.full_conditions(DENSE, blocks(60), 7), below(7))
        self.assertEqual(judge.least_conditions(DENSE, blocks(60), 7), (6,))
        # All but one are supporters that nothing implies.
        apart = tuple([("do", t, "a") for t in range(7)] * 7 + [("do", 7, "b")]) + votes(nothing)[:7]
        self.assertEqual(judge.least_conditions((KINDS, (("a", "b"),)), apart, 7), below(7))

    def test_sixty_events_with_compensations(self):
        history = ALL[-1]
        self.assertIs(judge.is_right(FREE, history), True)
        # The last four steps are taken back, and then one that 4 to 7 have built on.
        self.assertEqual(judge.judge_history(DENSE, history)[:2], ("wrong", 36))


class Runs(Case):
    def test_two_hundred_and_forty_events(self):
        for table in (DENSE, FREE, CHAIN):
            for history in ALL[:6]:
                run = tuple([(s, event) for event in history for s in range(4)])
                self.assertIs(self.timed(runs.is_run, table, run), True)
                self.assertEqual(self.timed(runs.site_history, table, run, 3), history)
                self.assertEqual(self.timed(runs.facts_of, table, run), ())
                found = self.timed(runs.completions, table, run)
                for completion in (found[0], found[-1]):
                    certificate = self.timed(runs.judge_run, table, run, completion)
                    self.assertIs(self.timed(runs.run_holds, table, run, completion, certificate), True)
                is_right = self.timed(runs.is_right_run, table, run)
                if self.timed(runs.are_sites_right, table, run):
                    self.assertIs(is_right, True)

    def test_answers(self):
        run = tuple([(s, event) for event in blocks(52) + votes(below) for s in range(4)])
        self.assertIs(runs.are_sites_right(DENSE, run), True)
        self.assertIs(runs.is_right_run(DENSE, run), True)
        self.assertEqual(len(runs.completions(DENSE, run)), 256)
        self.assertEqual(runs.judge_run(DENSE, run, runs.completions(DENSE, run)[-1]), ("serial", below(8)))
        run = tuple([(s, event) for event in turns(52) + votes(nothing) for s in range(4)])
        self.assertIs(runs.is_right_run(DENSE, run), False)
        self.assertIs(runs.is_right_run(FREE, run), True)
        # Each site has the transactions in another order.
        run = tuple([(s, ("do", (t * (2 * s + 1)) % 8, "a")) for s in range(4) for t in range(8)]
                    + [(s, vote) for s in range(4) for vote in votes(nothing)])
        completion = runs.completions(DENSE, run)[-1]
        self.assertEqual(runs.judge_run(DENSE, run, completion)[0], "ring")


if __name__ == "__main__":
    unittest.main()
