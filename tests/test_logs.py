"""Operations, logs, and the rows that follow (part 8)."""

import unittest
from itertools import permutations
from random import Random

from tests import making_logs as making
from tests import reference_logs as logs
from tests import reference_sites as sites
from tests.cases import Raising
from tests.things import altered, plain_things
from yesifs.errors import BadKeys, BadLog, BadOperation, BadStep, BadTransaction, BadTransactions
from yesifs.judge import full_conditions, is_right, is_right_now
from yesifs.logs import (answer_of, do_row, history_of, is_log, is_operation, key_table, kind_of, refuse_rows,
                         restart_rows, settle_rows, table_of, values, yes_row)
from yesifs.sites import is_history, known_kept, lost, state_of
from yesifs.tables import does_conflict, is_table

GET, SET, ADD = ("get", "x"), ("set", "x", 7), ("add", "x", 5)
OTHER = ("add", "y", 1)
LOG = (("do", 1, ADD, 0), ("do", 2, GET, 5), ("do", 3, OTHER, 0))
VOTED = LOG + (("yes", 2, (1,)), ("yes", 1, ()))
NO_KEYS = ["", "abcdefghij", "X", "xY", "x1", "x y", "x\n", "x_", "-", None, 1, True, ("x",), ["x"], b"x", (), {}]
NO_OPERATIONS = [
    (), ("get",), ("get", "x", 1), ("get", "x", None), ("set", "x"), ("add", "x"), ("set", "x", 1, 2), ("set", "x", None),
    ("set", "x", True), ("add", "x", False), ("add", "x", "1"), ("add", "x", (1,)), ("set", 1, "x"), ("Get", "x"),
    ("gets", "x"), ("g", "x"), ("", "x"), (None, "x"), (["get"], "x"), ["get", "x"], ["set", "x", 1], "get", "gx",
    ("x", "get"), ("put", "x", 1), (("get", "x"),), ("add", "x", [1]), ("do", 1, GET)]
NO_LOGS = [thing for thing in plain_things() if thing != ()] + [
    [LOG[0]], [*LOG], (list(LOG[0]),), LOG[0], LOG[::-1], (LOG,), LOG + (("fall",),), LOG + LOG[-1:], {0: LOG[0]},
    (("do", 1, "ax"),), (("do", 1, ADD),), (("do", 1, ADD, 5),), (("do", 1, ADD, False),)]


class Case(Raising):
    def follows(self, log, *rows):
        for row in rows:
            self.assertIs(is_log(log + (row,)), True, (log, row))
            self.assertIs(logs.is_log(log + (row,)), True, (log, row))

    def never_follows(self, log, *rows):
        self.assertIs(is_log(log), True, log)
        for row in rows:
            self.assertIs(is_log(log + (row,)), False, (log, row))
            self.assertIs(is_log(log + (row, ("hear", ("dropped", 9)))), False)
            self.assertIs(logs.is_log(log + (row,)), False, (log, row))


class Operations(Case):
    def test_operations(self):
        for operation in (GET, SET, ADD, ("get", "abcdefghi"), ("get", "get"), ("set", "z", 0), ("add", "no", -10 ** 6),
                          ("add", "x", 10 ** 39)):
            self.assertIs(is_operation(operation), True)
            self.assertIs(is_operation(thing=operation), True)

    def test_values_that_are_no_operations(self):
        for thing in NO_OPERATIONS + plain_things() + [("get", key) for key in NO_KEYS] + [
                ("add", key, 1) for key in NO_KEYS]:
            self.assertIs(is_operation(thing), False, thing)
            self.assertIs(logs.is_operation(thing), False, thing)
            self.raises(BadOperation, thing, lambda: kind_of(thing), lambda: kind_of(operation=thing))
        for operation in (GET, SET, ADD):
            for thing in altered(operation):
                self.assertIs(is_operation(thing), logs.is_operation(thing), thing)

    def test_kinds(self):
        for operation, kind in ((GET, "gx"), (SET, "sx"), (ADD, "ax"), (("get", "abcdefghi"), "gabcdefghi"),
                                (("add", "a", 0), "aa"), (("set", "get", -1), "sget")):
            self.assertEqual(kind_of(operation), kind)
            self.assertEqual(kind_of(operation=operation), kind)

    def test_key_tables(self):
        self.assertEqual(key_table(()), ((), ()))
        one = (("ax", "gx", "sx"), (("ax", "gx"), ("ax", "sx"), ("gx", "sx"), ("sx", "sx")))
        self.assertEqual(key_table(("x",)), one)
        self.assertEqual(key_table(keys=("x",)), one)
        two = key_table(("b", "xy"))
        self.assertEqual(two[0], ("ab", "axy", "gb", "gxy", "sb", "sxy"))
        for keys in (("a", "g", "s"), ("x", "xx"), ("aa", "ga", "sa"), tuple("abcdefghijkl")):
            self.assertEqual(key_table(keys), logs.key_table(keys))
            self.assertIs(is_table(key_table(keys)), True)
            self.assertEqual(len(key_table(keys)[0]), 3 * len(keys))
            self.assertEqual(len(key_table(keys)[1]), 4 * len(keys))
        self.assertIs(does_conflict(one, "ax", "ax"), False)
        self.assertIs(does_conflict(one, "gx", "gx"), False)
        self.assertIs(does_conflict(two, "sb", "sxy"), False)

    def test_values_that_are_no_keys(self):
        for thing in [("y", "x"), ("x", "x"), ("x", 1), ("x", None), ["x"], "x", {"x": 1}, ("x", ("y",)), None,
                      *[(key,) for key in NO_KEYS], *plain_things()]:
            if type(thing) is tuple and all(logs.is_key(part) for part in thing) and logs.is_ascending(thing):
                self.assertEqual(key_table(thing), logs.key_table(thing))
            else:
                self.raises(BadKeys, thing, lambda: key_table(thing), lambda: key_table(keys=thing))


class Logs(Case):
    def test_the_empty_log(self):
        self.assertIs(is_log(()), True)
        self.assertEqual([history_of(()), table_of(()), values(()), settle_rows(()), restart_rows(()),
                          refuse_rows((), ())], [(), ((), ()), (), (), (), ()])

    def test_values_that_are_no_logs(self):
        for thing in NO_LOGS:
            self.assertIs(is_log(thing), False, thing)
            self.assertIs(is_log(thing=thing), False)
            for call in (history_of, table_of, values, settle_rows, restart_rows):
                self.raises(BadLog, thing, lambda: call(thing), lambda: call(log=thing))
            self.raises(BadLog, thing, lambda: do_row(thing, None, None), lambda: do_row(operation=1, t=-1, log=thing),
                        lambda: yes_row(thing, None), lambda: yes_row(t=None, log=thing),
                        lambda: refuse_rows(thing, None), lambda: refuse_rows(some=None, log=thing),
                        lambda: answer_of(thing, None), lambda: answer_of(i=None, log=thing))

    def test_steps(self):
        self.follows((), ("do", 0, GET, 0), ("do", 10 ** 39, SET, 0), ("do", 1, ADD, 0))
        self.never_follows((), ("do", 1, ADD, 5), ("do", 1, GET, None), ("do", 1, GET, False), ("do", 1, GET, "0"),
                           ("do", True, GET, 0), ("do", -1, GET, 0), ("do", "1", GET, 0), ("do", 1, GET), ("do", 1, 0),
                           ("do", 1, GET, 0, 0), ("do", 1, "gx", 0), ("do", 1, "gx"), ["do", 1, GET, 0], ("do", 1, [*GET], 0),
                           ("Do", 1, GET, 0), ("yes", 1, GET, 0), (None, 1, GET, 0), ([], 1, GET, 0))
        self.never_follows((), *[("do", 1, operation, 0) for operation in NO_OPERATIONS])

    def test_the_value_before(self):
        for operation, after in ((GET, 0), (SET, 7), (ADD, 5), (("add", "x", -3), -3), (("set", "x", 0), 0)):
            log = (("do", 1, operation, 0),)
            self.follows(log, ("do", 2, GET, after), ("do", 1, SET, after), ("do", 2, ("get", "y"), 0))
            self.never_follows(log, *[("do", 2, GET, k) for k in range(-4, 9) if k != after], ("do", 2, ("get", "y"), 1))
        log = (("do", 1, SET, 0), ("do", 2, ADD, 7), ("do", 3, ("set", "x", 1), 12))
        self.follows(log, ("do", 4, GET, 1))
        self.never_follows(log, ("do", 4, GET, 12), ("do", 4, GET, True), ("do", 4, GET, 0))

    def test_steps_of_transactions_that_cannot(self):
        self.never_follows(VOTED, ("do", 1, GET, 5), ("do", 2, GET, 5))
        self.follows(VOTED, ("do", 3, GET, 5), ("do", 4, GET, 5))
        self.never_follows(LOG + (("no", 2),), ("do", 2, GET, 5))
        for fact in (("dropped", 4), ("firm", 4, ()), ("firm", 4, (1,))):
            self.never_follows(LOG + (("hear", fact),), ("do", 4, GET, 5))

    def test_yes(self):
        self.follows(LOG, ("yes", 1, ()), ("yes", 2, (1,)), ("yes", 3, ()))
        self.never_follows(LOG, ("yes", 1, (2,)), ("yes", 1, (3,)), ("yes", 2, ()), ("yes", 2, (1, 3)), ("yes", 2, (3,)),
                           ("yes", 2, (True,)), ("yes", 2, [1]), ("yes", 4, ()), ("yes", 2), ("yes", 2, (1,), 0),
                           ("yes", True, ()), ("yes", 2, None))
        # Sufficient conditions that are not the full ones are not enough, and too many are too many.
        three = (("do", 1, ADD, 0), ("do", 2, SET, 5), ("do", 3, GET, 7))
        self.follows(three, ("yes", 3, (1, 2)))
        self.never_follows(three, ("yes", 3, (2,)), ("yes", 3, (1,)), ("yes", 3, ()))
        kept = three + (("yes", 1, ()), ("hear", ("firm", 1, ())))
        self.follows(kept, ("yes", 3, (2,)), ("yes", 2, ()))
        self.never_follows(kept, ("yes", 3, (1, 2)), ("yes", 2, (1,)))
        # What is lost still supports until it is taken back.
        refused = three + (("no", 2),)
        self.follows(refused, ("yes", 3, (1, 2)))
        self.never_follows(refused, ("yes", 3, (1,)))
        self.never_follows(VOTED, ("yes", 1, ()), ("yes", 2, (1,)))

    def test_no(self):
        self.follows(LOG, ("no", 1), ("no", 2), ("no", 3))
        # No vote against what is not active: without a step, with a vote, or with a fact.
        self.never_follows(LOG, ("no", 4), ("no", 0), ("no", True), ("no",), ("no", 1, 0), ("no", None), ["no", 1])
        self.never_follows(VOTED, ("no", 1), ("no", 2))
        self.never_follows(LOG + (("no", 1),), ("no", 1))
        self.never_follows(LOG + (("hear", ("dropped", 1)),), ("no", 1))
        self.never_follows((), ("no", 1))

    def test_hear(self):
        self.follows(LOG, ("hear", ("dropped", 1)), ("hear", ("dropped", 9)), ("hear", ("firm", 9, (1, 8))))
        self.never_follows(LOG, ("hear", ("firm", 1, ())), ("hear", ("firm", 2, (1,))), ("hear", ("firm", 9, [1])),
                           ("hear", ("firm", 9, (9,))), ("hear", ("firm", True, ())), ("hear",), ("hear", None),
                           ("hear", ("dropped", 1), 0), ["hear", ("dropped", 1)])
        self.follows(VOTED, ("hear", ("firm", 1, ())), ("hear", ("firm", 1, (2,))), ("hear", ("firm", 2, (1,))))
        self.never_follows(VOTED, ("hear", ("firm", 2, ())), ("hear", ("firm", 2, (3,))))
        self.never_follows(VOTED + (("hear", ("dropped", 1)),), ("hear", ("dropped", 1)), ("hear", ("firm", 1, ())))
        self.never_follows(LOG + (("no", 1),), ("hear", ("firm", 1, ())))

    def test_back(self):
        refused = LOG + (("no", 1),)
        self.never_follows(refused, ("back", 1, 0), ("back", 2, 1), ("back", 3, 2))
        both = LOG + (("no", 1), ("no", 2))
        self.follows(both, ("back", 2, 1))
        self.never_follows(both, ("back", 1, 0), ("back", 1, 1), ("back", 2, 0), ("back", 2, 2), ("back", 2, True),
                           ("back", True, 1), ("back", 2), ("back", 2, 1, 5), ("back", 2, None), ("back", 2, -2),
                           ("back", 2, (1,)), ["back", 2, 1])
        gone = both + (("back", 2, 1),)
        self.follows(gone, ("back", 1, 0))
        self.never_follows(gone, ("back", 2, 1), ("back", 3, 2))
        self.never_follows(LOG, ("back", 1, 0), ("back", 2, 1), ("back", 3, 2))
        self.follows(LOG + (("hear", ("dropped", 2)),), ("back", 2, 1))
        self.follows(VOTED + (("hear", ("dropped", 1)),), ("back", 2, 1))
        self.never_follows(VOTED + (("hear", ("dropped", 1)),), ("back", 1, 0))
        # A later "add" does not conflict with an "add", nor a later "get" of another key.
        free = (("do", 1, ADD, 0), ("do", 2, ADD, 5), ("do", 2, ("get", "y"), 0), ("no", 1))
        self.follows(free, ("back", 1, 0))
        own = (("do", 1, ADD, 0), ("do", 1, OTHER, 0), ("no", 1))
        self.follows(own, ("back", 1, 1))
        self.never_follows(own, ("back", 1, 0))

    def test_no_falls(self):
        self.never_follows((), ("fall",))
        self.never_follows(LOG, ("fall",), ("fall", ()), (), ("rise", 1), ("rise", 1, 2))

    def test_keys(self):
        for key in ("a", "abcdefghi"):
            self.follows((), ("do", 1, ("get", key), 0))
        self.never_follows((), *[("do", 1, ("get", key), 0) for key in NO_KEYS])

    def test_altered_logs(self):
        for log in (LOG, VOTED + (("hear", ("firm", 1, (3,))), ("hear", ("dropped", 2))), LOG + logs.refuse_rows(LOG, (1,))):
            self.assertIs(is_log(log), True)
            for thing in altered(log):
                self.assertIs(is_log(thing), logs.is_log(thing), thing)

    def test_all_rows_after_random_logs(self):
        random = Random(81)
        for n in range(120):
            log = making.random_log(random, random.randint(0, 9), 3)
            self.assertIs(is_log(log), True, log)
            for row in making.all_rows(log, 3):
                self.assertIs(is_log(log + (row,)), logs.is_next(log, row), (log, row))

    def test_histories_and_tables(self):
        self.assertEqual(history_of(LOG), (("do", 1, "ax"), ("do", 2, "gx"), ("do", 3, "ay")))
        self.assertEqual(history_of(VOTED)[3:], VOTED[3:])
        self.assertEqual(table_of(LOG), key_table(("x", "y")))
        self.assertEqual(table_of(VOTED[:2]), key_table(("x",)))
        self.assertEqual(table_of((("hear", ("dropped", 1)),)), ((), ()))
        self.assertEqual(table_of((("do", 1, ("get", "y"), 0), ("do", 1, ("get", "x"), 0))), key_table(("x", "y")))
        random = Random(82)
        for n in range(100):
            log = making.random_log(random, random.randint(0, 12), 3)
            self.assertEqual(history_of(log=log), logs.events(log))
            self.assertEqual(table_of(log=log), logs.table(log))
            self.assertIs(is_history(table_of(log), history_of(log)), True)


class Values(Case):
    def check(self, log, *expected):
        self.assertEqual(values(log), expected)
        self.assertEqual(values(log=log), expected)
        self.assertEqual(logs.values(log), expected)

    def test_steps(self):
        self.check(LOG, ("x", 5), ("y", 1))
        self.check((("do", 1, SET, 0), ("do", 1, GET, 7)), ("x", 7))
        self.check((("do", 1, SET, 0), ("do", 2, ("add", "x", -8), 7)), ("x", -1))
        self.check((("do", 1, ("set", "z", 10 ** 6), 0), ("do", 2, ("set", "a", -10 ** 6), 0)), ("a", -10 ** 6),
                   ("z", 10 ** 6))

    def test_values_that_come_back_to_0(self):
        self.check((("do", 1, ADD, 0), ("do", 2, ("add", "x", -5), 5)))
        self.check((("do", 1, ADD, 0), ("do", 2, ("set", "x", 0), 5)))
        self.check((("do", 1, ADD, 0), ("no", 1), ("back", 1, 0)))
        self.check((("do", 1, GET, 0),))

    def test_compensations(self):
        done = (("do", 1, ("set", "x", 3), 0), ("do", 2, SET, 3), ("do", 3, ADD, 7), ("do", 4, ADD, 12))
        self.check(done, ("x", 17))
        adds = done + (("no", 3), ("back", 3, 2))
        self.check(adds, ("x", 12))
        all_of_them = done + (("no", 2), ("no", 3), ("no", 4), ("back", 4, 3))
        self.check(all_of_them, ("x", 12))
        self.check(all_of_them + (("back", 3, 2),), ("x", 7))
        self.check(all_of_them + (("back", 3, 2), ("back", 2, 1)), ("x", 3))

    def test_adds_commute(self):
        # A step in the middle is taken back, and what was added after it stays.
        log = (("do", 1, ADD, 0), ("do", 2, ("add", "x", 2), 5), ("do", 3, ("add", "x", 1), 7), ("no", 2))
        self.follows(log, ("back", 2, 1))
        self.check(log + (("back", 2, 1),), ("x", 6))
        self.follows(log + (("back", 2, 1),), ("do", 4, GET, 6))
        self.assertEqual(full_conditions(table_of(log), history_of(log), 3), ())

    def test_sets_and_gets_do_not_commute(self):
        for one, other in ((GET, SET), (SET, GET), (SET, SET), (GET, ADD), (ADD, GET), (SET, ADD), (ADD, SET)):
            log = (("do", 1, one, 0), ("do", 2, other, {GET: 0, SET: 7, ADD: 5}[one]))
            self.assertEqual(yes_row(log, 2), ("yes", 2, (1,)))
        for operation in (GET, ADD):
            log = (("do", 1, operation, 0), ("do", 2, operation, 5 if operation == ADD else 0))
            self.assertEqual(yes_row(log, 2), ("yes", 2, ()))

    def test_random_logs(self):
        random = Random(83)
        for n in range(300):
            log = making.random_log(random, random.randint(0, 14), 4)
            self.check(log, *logs.values(log))


class Rows(Case):
    def test_do_rows(self):
        self.assertEqual(do_row((), 1, GET), ("do", 1, GET, 0))
        self.assertEqual(do_row(LOG, 3, SET), ("do", 3, SET, 5))
        self.assertEqual(do_row(operation=("get", "z"), t=9, log=LOG), ("do", 9, ("get", "z"), 0))
        random = Random(84)
        for n in range(200):
            log = making.random_log(random, random.randint(0, 10), 3)
            for t in range(5):
                operation = making.random_operation(random)
                row = ("do", t, operation, logs.amounts(log).get(operation[1], 0))
                if logs.is_next(log, row):
                    self.assertEqual(do_row(log, t, operation), row)
                else:
                    self.raises(BadTransaction, t, lambda: do_row(log, t, operation), lambda: do_row(log, t, None))

    def test_do_rows_of_bad_transactions(self):
        for t in (-1, True, False, None, "1", (1,), [1], {}, 1.0, *[thing for thing in plain_things() if type(thing) is not int]):
            self.raises(BadTransaction, t, lambda: do_row(LOG, t, GET), lambda: do_row(operation=None, t=t, log=LOG))
        for log, t in ((VOTED, 1), (VOTED, 2), (LOG + (("no", 1),), 1), (LOG + (("hear", ("firm", 9, ())),), 9),
                       (LOG + (("hear", ("dropped", 1)),), 1)):
            self.raises(BadTransaction, t, lambda: do_row(log, t, GET), lambda: do_row(log, t, None))

    def test_do_rows_of_bad_operations(self):
        for thing in NO_OPERATIONS + plain_things():
            self.raises(BadOperation, thing, lambda: do_row(LOG, 1, thing),
                        lambda: do_row(operation=thing, t=9, log=LOG))

    def test_yes_rows(self):
        self.assertEqual([yes_row(LOG, t) for t in (1, 2, 3)], [("yes", 1, ()), ("yes", 2, (1,)), ("yes", 3, ())])
        self.assertEqual(yes_row(t=2, log=LOG), ("yes", 2, (1,)))
        for t in (4, 0, -1, True, None, "2", (2,), [2], 10 ** 39):
            self.raises(BadTransaction, t, lambda: yes_row(LOG, t), lambda: yes_row(t=t, log=LOG))
        for t in (1, 2):
            self.raises(BadTransaction, t, lambda: yes_row(VOTED, t))
        random = Random(85)
        for n in range(200):
            log = making.random_log(random, random.randint(0, 10), 3)
            for t in range(5):
                if t in logs.active(log):
                    self.assertEqual(yes_row(log, t),
                                     ("yes", t, full_conditions(logs.table(log), logs.events(log), t)))
                    self.follows(log, yes_row(log, t))
                else:
                    self.raises(BadTransaction, t, lambda: yes_row(log, t))

    def test_answers(self):
        log = (("do", 1, GET, 0), ("do", 1, SET, 0), ("do", 2, GET, 7), ("do", 2, ("get", "y"), 0), ("no", 2),
               ("back", 2, 3), ("back", 2, 2))
        self.assertEqual([answer_of(log, i) for i in (0, 2, 3)], [0, 7, 0])
        self.assertEqual(answer_of(i=2, log=log), 7)
        for i in (1, 4, 5, 6, 7, -1, -5, True, False, None, "2", (2,), [2], {}, 10 ** 39):
            self.raises(BadStep, i, lambda: answer_of(log, i), lambda: answer_of(i=i, log=log))
        for thing in plain_things():
            if type(thing) is not int or thing != 0:
                self.raises(BadStep, thing, lambda: answer_of(log, thing))


class Refusing(Case):
    def check(self, log, some, *expected):
        self.assertEqual(refuse_rows(log, some), expected)
        self.assertEqual(refuse_rows(some=some, log=log), expected)
        self.assertEqual(logs.refuse_rows(log, some), expected)
        self.assertIs(is_log(log + expected), True)

    def test_none(self):
        self.check(LOG, ())
        self.check(VOTED, ())

    def test_one(self):
        self.check(LOG, (3,), ("no", 3), ("back", 3, 2))
        self.check(LOG, (2,), ("no", 2), ("back", 2, 1))

    def test_what_is_drawn_along(self):
        self.check(LOG, (1,), ("no", 1), ("no", 2), ("back", 2, 1), ("back", 1, 0))
        # 3 builds on 2, and 2 on 1.
        log = (("do", 1, ADD, 0), ("do", 2, GET, 5), ("do", 2, OTHER, 0), ("do", 3, ("get", "y"), 1), ("do", 4, ADD, 5))
        self.check(log, (1,), ("no", 1), ("no", 2), ("no", 3), ("no", 4), ("back", 4, 4), ("back", 3, 3), ("back", 2, 2),
                   ("back", 2, 1), ("back", 1, 0))
        self.check(log, (3,), ("no", 3), ("back", 3, 3))
        self.check(log[:4], (1,), ("no", 1), ("no", 2), ("no", 3), ("back", 3, 3), ("back", 2, 2), ("back", 2, 1),
                   ("back", 1, 0))

    def test_voted_ones_are_lost_by_their_conditions(self):
        self.check(LOG + (("yes", 2, (1,)),), (1,), ("no", 1), ("back", 2, 1), ("back", 1, 0))
        # 3 is drawn along by the voted 2.
        log = (("do", 1, ADD, 0), ("do", 2, GET, 5), ("do", 2, OTHER, 0), ("yes", 2, (1,)), ("do", 3, ("get", "y"), 1))
        self.check(log, (1,), ("no", 1), ("no", 3), ("back", 3, 4), ("back", 2, 2), ("back", 2, 1), ("back", 1, 0))

    def test_several(self):
        self.check(LOG, (1, 3), ("no", 1), ("no", 2), ("no", 3), ("back", 3, 2), ("back", 2, 1), ("back", 1, 0))
        self.check(LOG, (1, 2, 3), ("no", 1), ("no", 2), ("no", 3), ("back", 3, 2), ("back", 2, 1), ("back", 1, 0))
        self.assertEqual(restart_rows(LOG), refuse_rows(LOG, (1, 2, 3)))
        self.assertEqual(restart_rows(VOTED), (("no", 3), ("back", 3, 2)))

    def test_what_is_kept_stays(self):
        log = (("do", 1, SET, 0), ("yes", 1, ()), ("hear", ("firm", 1, ())), ("do", 2, GET, 7), ("do", 3, SET, 7))
        self.check(log, (2,), ("no", 2), ("no", 3), ("back", 3, 4), ("back", 2, 3))
        self.check(log, (3,), ("no", 3), ("back", 3, 4))

    def test_settling(self):
        # A dropped fact of a voted one: what was built on it is refused.
        log = LOG + (("yes", 1, ()), ("hear", ("dropped", 1)))
        self.assertEqual(settle_rows(log), (("no", 2), ("back", 2, 1), ("back", 1, 0)))
        self.assertEqual(settle_rows(log=VOTED + (("hear", ("dropped", 1)),)), (("back", 2, 1), ("back", 1, 0)))
        self.check(log, (3,), ("no", 2), ("no", 3), ("back", 3, 2), ("back", 2, 1), ("back", 1, 0))
        # A dropped fact of an active one needs no "no".
        self.assertEqual(settle_rows(LOG + (("hear", ("dropped", 2)),)), (("back", 2, 1),))
        # A fact of another site makes its transaction lost by a condition.
        abroad = VOTED + (("hear", ("firm", 1, (8,))), ("hear", ("dropped", 8)))
        self.assertEqual(settle_rows(abroad), (("back", 2, 1), ("back", 1, 0)))
        ring = VOTED + (("hear", ("firm", 1, (2,))),)
        self.assertEqual(settle_rows(ring), (("back", 2, 1), ("back", 1, 0)))

    def test_settling_and_restarting_again(self):
        random = Random(86)
        for n in range(150):
            log = making.random_log(random, random.randint(0, 12), 4)
            settled = log + settle_rows(log)
            self.assertEqual(settle_rows(settled), ())
            again = log + restart_rows(log)
            self.assertEqual(restart_rows(again), ())
            self.assertEqual(settle_rows(again), ())
            self.assertEqual(restart_rows(settled + restart_rows(settled)), ())

    def test_cut_off_amid_the_rows(self):
        random = Random(87)
        for n in range(100):
            log = making.random_log(random, random.randint(0, 12), 4)
            for rows in (restart_rows(log), settle_rows(log), refuse_rows(log, logs.active(log)[:1])):
                for k in range(len(rows) + 1):
                    cut = log + rows[:k]
                    self.assertIs(is_log(cut), True)
                    more = restart_rows(cut)
                    self.assertEqual(more, logs.refuse_rows(cut, logs.active(cut)))
                    self.assertEqual(restart_rows(cut + more), ())

    def test_random_logs(self):
        random = Random(88)
        for n in range(200):
            log = making.random_log(random, random.randint(0, 12), 4)
            active = logs.active(log)
            for some in ((), active, making.random_subset(random, active)):
                self.check(log, some, *logs.refuse_rows(log, some))
            self.assertEqual(settle_rows(log=log), logs.refuse_rows(log, ()))
            self.assertEqual(restart_rows(log=log), logs.refuse_rows(log, active))

    def test_bad_transactions(self):
        for thing in [(4,), (0,), (2, 1), (1, 1), (1, 4), (-1,), (True,), ("1",), [1], [], {}, {1: 1}, 1, None, "", "1",
                      (None,), ((1,),), (1, [2]), (1, 2, 3, 4), *[one for one in plain_things()]]:
            if thing not in ((), (1,), (1, 2), (1, 2, 3)) or repr(thing) in ("(True,)", "[]", "[1]"):
                self.raises(BadTransactions, thing, lambda: refuse_rows(LOG, thing),
                            lambda: refuse_rows(some=thing, log=LOG))
        for thing in ((1,), (2,), (1, 3)):
            self.raises(BadTransactions, thing, lambda: refuse_rows(VOTED, thing))


class WhatStays(Case):
    """[8.4] for random logs."""

    def test_right_at_every_moment(self):
        random = Random(89)
        for n in range(250):
            log = making.random_log(random, random.randint(0, 14), 5)
            self.assertIs(is_right(table_of(log), history_of(log)), True, log)
            self.assertIs(is_right_now(table_of(log), history_of(log)), True, log)
            for p in range(len(log)):
                self.assertIs(is_log(log[:p]), True)

    def test_refusing_leads_to_a_log(self):
        random = Random(90)
        for n in range(150):
            log = making.random_log(random, random.randint(0, 14), 5)
            some = making.random_subset(random, logs.active(log))
            after = log + refuse_rows(log, some)
            self.assertIs(is_log(after), True, (log, some))
            table, history = table_of(after), history_of(after)
            for t in some:
                self.assertEqual(state_of(table, history, t), "lost")
            # No step of a lost transaction is left.
            self.assertEqual([i for i in logs.left(after) if after[i][1] in lost(table, history)], [])

    def test_the_values_are_those_of_the_kept(self):
        random = Random(91)
        many = 0
        for n in range(700):
            words = random.choice([making.WORDS, ("do", "do", "do", "yes", "yes")])
            log = making.random_log(random, random.randint(0, 14), 4, words=words)
            log += restart_rows(log)
            for t in sorted(sites.performers(logs.events(log))):
                if state_of(table_of(log), history_of(log), t) == "voted" and t not in logs.heard(log):
                    firm = ("firm", t, sites.yes_votes(logs.events(log))[t])
                    log += (("hear", ("dropped", t) if random.random() < 0.2 else firm),)
                    log += settle_rows(log)
            history = history_of(log)
            states = {state_of(table_of(log), history, t) for t in sites.performers(history)}
            if states & {"active", "voted"}:
                continue
            kept = [t for t in known_kept(table_of(log), history) if t in sites.performers(history)]
            orders = [order for order in permutations(kept) if goes_along(log, order)]
            self.assertGreater(len(orders), 0)
            many += len(kept) > 1
            for order in orders:
                self.assertEqual(run_after_another(log, order), (dict(values(log)), True), (log, order))
        self.assertGreater(many, 50)


def goes_along(log, order):
    """Whether conflicting steps of the transactions go along their positions in this order."""
    place = {t: at for at, t in enumerate(order)}
    past = logs.events(log)
    steps = [i for i in sites.steps(past) if log[i][1] in place]
    return all(place[log[i][1]] <= place[log[j][1]] for i in steps for j in steps
               if i < j and sites.do_steps_conflict(logs.table(log), past, i, j))


def run_after_another(log, order):
    """The values that are not 0 after one transaction after another, and whether each "get" reads what it read."""
    found, as_before = {}, True
    for t in order:
        for row in log:
            if row[:2] == ("do", t):
                key = row[2][1]
                if row[2][0] == "get":
                    as_before = as_before and row[3] == found.get(key, 0)
                else:
                    found[key] = row[2][2] + (found.get(key, 0) if row[2][0] == "add" else 0)
    return ({key: value for key, value in found.items() if value != 0}, as_before)


if __name__ == "__main__":
    unittest.main()
