"""Inputs at the limits of parts 7 to 9: the answers are right, and each call ends within a few seconds."""

import unittest
from random import Random

from tests import reference_tokens
from tests.test_limits import ALL, CHAIN, DENSE, FREE, Case, below, blocks, nothing, turns, votes
from yesifs import judge, logs, sending, sites, tokens

KEYS = ("a", "bb", "abcdefghi", "z")
WORDS = ("add", "get", "set", "add", "get", "add", "set")


def shuffled(random, history, many=30):
    """A store in which each step moves many tokens in another way."""
    moves = [random.sample(range(many), many) if event[0] == "do" else range(many) for event in history]
    return (many, tuple([tuple(move) for move in moves]))


def turned(history, many=30):
    """A store in which all steps commute."""
    return (many, tuple([tuple([(k + (i if event[0] == "do" else 0)) % many for k in range(many)])
                         for i, event in enumerate(history)]))


def operation(n):
    word = WORDS[n % 7]
    key = KEYS[n * n % 4]
    return ("get", key) if word == "get" else (word, key, (n - 20) * 10 ** 4)


def log_of(owners, more=()):
    """A log with a step of each of the owners, and then votes for the numbers in more."""
    log = ()
    for n, t in enumerate(owners):
        log += (logs.do_row(log, t, operation(n)),)
    for row in more:
        log += (logs.yes_row(log, row) if isinstance(row, int) else row,)
    return log


BUILT = log_of([n % 8 for n in range(60)])
BLOCKS = log_of([n * 8 // 60 for n in range(60)])
VOTED = log_of([n * 8 // 52 for n in range(52)], range(8))
HALF = log_of([n % 8 for n in range(52)], (0, 2, 4, 6))
KEPT = log_of([n * 8 // 44 for n in range(44)], range(8))
KEPT += tuple([("hear", ("firm", row[1], row[2])) for row in KEPT if row[0] == "yes"])
REFUSED = log_of([n % 8 for n in range(26)])
REFUSED += logs.restart_rows(REFUSED)
LOGS = [BUILT, BLOCKS, VOTED, HALF, KEPT, REFUSED]


class Tokens(Case):
    def test_sixty_events(self):
        random = Random(95)
        for table in (DENSE, FREE, CHAIN):
            for history in ALL:
                for store in (turned(history), shuffled(random, history)):
                    fits = self.timed(tokens.is_store, table, history, store)
                    self.assertIs(fits, table == DENSE or store == turned(history))
                    found = sites.outcomes(table, history)
                    for outcome in (found[0], max(found, key=len)):
                        shown = self.timed(tokens.does_show, table, history, outcome, store)
                        self.assertTrue(fits or not shown)
                    if fits:
                        word = sites.settled(table, history, found[-1])
                        self.assertEqual(self.timed(tokens.result, table, history, store, word),
                                         reference_tokens.result(store, word))

    def test_stores_against_histories(self):
        for table in (DENSE, FREE, CHAIN):
            for history in ALL:
                try:
                    outcome, store = self.timed(tokens.store_against, table, history)
                except tokens.IsRight:
                    self.assertIs(judge.is_right_now(table, history), True)
                    continue
                self.assertIs(judge.is_right_now(table, history), False)
                self.assertIs(self.timed(tokens.does_show, table, history, outcome, store), True)

    def test_all_orders_of_eight_transactions(self):
        # All are kept in any order, and no two orders come to the same.
        history = blocks(52) + votes(nothing)
        store = shuffled(Random(96), history)
        self.assertIs(self.timed(tokens.does_show, DENSE, history, below(8), store), False)
        mixed = turns(52) + votes(nothing)
        self.assertIs(self.timed(tokens.does_show, DENSE, mixed, below(8), shuffled(Random(97), mixed)), True)

    def test_weak_conditions(self):
        history = blocks(52)
        for u in range(1, 8):
            outcome, store = self.timed(tokens.weakened, DENSE, history, u, ())
            self.assertEqual(store[0], 3)
            self.assertIs(tokens.does_show(DENSE, history + (("yes", u, ()),), outcome, store), True)


class Logs(Case):
    def test_sixty_rows(self):
        for log in LOGS:
            self.assertIs(self.timed(logs.is_log, log), True)
            table, history = self.timed(logs.table_of, log), self.timed(logs.history_of, log)
            self.assertIs(self.timed(judge.is_right, table, history), True)
            self.assertIs(self.timed(judge.is_right_now, table, history), True)
            for t in range(8):
                if sites.state_of(table, history, t) == "active":
                    self.assertIs(logs.is_log(log + (self.timed(logs.yes_row, log, t),)), True)
                    self.assertIs(logs.is_log(log + self.timed(logs.refuse_rows, log, (t,))), True)
                    self.assertIs(logs.is_log(log + (self.timed(logs.do_row, log, t, ("get", "z")),)), True)
            for function in (logs.settle_rows, logs.restart_rows):
                after = log + self.timed(function, log)
                self.assertIs(self.timed(logs.is_log, after), True)
                self.timed(logs.values, after)
            for i, row in enumerate(log):
                if row[0] == "do" and row[2][0] == "get":
                    self.assertEqual(logs.answer_of(log, i), row[3])

    def test_answers(self):
        self.assertEqual(logs.values(BUILT + logs.restart_rows(BUILT)), ())
        self.assertEqual(len(logs.restart_rows(BUILT)), 68)
        self.assertEqual(logs.values(REFUSED), ())
        self.assertEqual(logs.values(KEPT), logs.values(KEPT[:44]))
        self.assertEqual(logs.restart_rows(KEPT), ())
        big = (("do", 1, ("set", "x", 10 ** 6), 0), ("do", 1, ("add", "x", 10 ** 6), 10 ** 6))
        self.assertEqual(logs.values(big), (("x", 2 * 10 ** 6),))


class Sending(Case):
    def test_sixty_rows(self):
        for log in LOGS:
            heard = [row[1][1] for row in log if row[0] == "hear"]
            desk = tuple([(t, tuple([(s, 60) for s in range(4)]), tuple([(s, tuple([u for u in range(8) if u != t]))
                                                                     for s in range(3)]), True)
                          for t in (1, 5) if t not in heard])
            state = (log, len(log) // 2, desk)
            self.assertIs(self.timed(sending.is_state, 4, 1, state), True)
            for message in [("ask", t, 1, 7) for t in range(8)] + [("tell", ("dropped", t), 1) for t in range(8)] + [
                    ("vote", 5, 3, None), ("vote", 5, 3, ()), ("vote", 1, 3, (5, 6)), ("what", 1), ("what", 9)]:
                after, sent = self.timed(sending.received, 4, 1, state, message)
                self.assertIs(self.timed(sending.is_state, 4, 1, after), True)
            for rows in (len(log) // 2, len(log)):
                down = self.timed(sending.fallen, 4, 1, state, rows)
                self.assertIs(sending.is_state(4, 1, self.timed(sending.restarted, 4, 1, down)), True)


if __name__ == "__main__":
    unittest.main()
