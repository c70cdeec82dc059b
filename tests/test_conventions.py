"""The conventions of DOC.md that concern all functions of the interface."""

import copy
import inspect
import unittest

from tests.test_judge import BARE
from tests.test_logs import LOG
from tests.test_benches import LINES
from tests.test_cascades import SCRIPT
from tests.test_runs import SPLIT
from tests.test_stores import FIRM, after, seen
from tests.test_tokens import THREE
from tests.things import CELLS, SOME, plain_things
from yesifs import (benches, cascades, errors, facts, judge, logs, parts, runs, sending, sites, stores, tables, tokens,
                    views)

INTERFACE = {
    tables: {"is_table": ["thing"], "does_conflict": ["table", "one", "other"], "is_coarser": ["table", "other"]},
    facts: {"is_fact": ["thing"], "are_facts": ["thing"], "fate": ["facts", "t"], "kept_by": ["facts"],
            "dropped_by": ["facts"], "open_by": ["facts"], "judge_fate": ["facts", "t"],
            "fate_holds": ["facts", "t", "thing"], "needed": ["facts", "t"]},
    parts: {"merged": ["one", "other"], "are_same_fates": ["one", "other"], "reason": ["facts", "t"],
            "is_reason": ["facts", "t", "thing"]},
    sites: {"is_history": ["table", "thing"], "is_event": ["table", "history", "thing"],
            "state_of": ["table", "history", "t"], "known_kept": ["table", "history"], "lost": ["table", "history"],
            "word_of": ["table", "history"], "outcomes": ["table", "history"],
            "settled": ["table", "history", "outcome"]},
    judge: {"is_right_now": ["table", "history"], "is_right": ["table", "history"],
            "judge_history": ["table", "history"], "history_holds": ["table", "history", "thing"],
            "supports": ["table", "history"], "full_conditions": ["table", "history", "u"],
            "least_conditions": ["table", "history", "u"], "is_sufficient": ["table", "history", "u", "thing"]},
    runs: {"is_run": ["table", "thing"], "site_history": ["table", "run", "s"], "facts_of": ["table", "run"],
           "completions": ["table", "run"], "judge_run": ["table", "run", "completion"],
           "run_holds": ["table", "run", "completion", "thing"], "is_right_run": ["table", "run"],
           "are_sites_right": ["table", "run"]},
    tokens: {"is_store": ["table", "history", "thing"], "result": ["table", "history", "store", "word"],
             "store_against": ["table", "history"], "does_show": ["table", "history", "outcome", "thing"],
             "weakened": ["table", "history", "u", "conditions"]},
    logs: {"is_operation": ["thing"], "kind_of": ["operation"], "key_table": ["keys"], "is_log": ["thing"],
           "history_of": ["log"], "table_of": ["log"], "values": ["log"], "do_row": ["log", "t", "operation"],
           "yes_row": ["log", "t"], "refuse_rows": ["log", "some"], "settle_rows": ["log"], "restart_rows": ["log"],
           "answer_of": ["log", "i"]},
    sending: {"is_state": ["many", "here", "thing"], "new_state": ["many", "here"], "is_message": ["many", "thing"],
              "goes_to": ["many", "message"], "leader_of": ["many", "t"],
              "received": ["many", "here", "state", "message"], "fallen": ["many", "here", "state", "rows"],
              "restarted": ["many", "here", "state"]},
    cascades: {"cascade": ["log", "t"], "is_script": ["thing"], "log_of": ["script", "interleaving"],
               "greatest_cascade": ["script", "t"], "waits": ["script", "interleaving"]},
    views: {"store_table": ["store"], "store_run": ["store"], "serial_order": ["store"],
            "order_holds": ["store", "thing"]},
    benches: {"store_after": ["many", "orders"], "read_text": ["text"]},
}
CLASSES = {
    stores.Store: {"__init__": ["many"], "do": ["order"], "is_possible": ["thing"], "state": ["site"], "is_up": ["site"],
                   "sent": [], "started": [], "facts": [], "close": [], "copied": []},
    benches.Bench: {"__init__": ["many"], "do": ["order"], "undo": [], "redo": [], "store": [], "orders": [],
                    "text": []},
}
HISTORY = (("do", 1, "add"), ("do", 2, "get"), ("do", 3, "get"), ("yes", 1, ()))
GOOD = {"thing": ("kept", (1,)), "table": CELLS, "one": "add", "other": "get", "facts": SOME, "t": 2, "u": 3,
        "history": HISTORY, "outcome": (1, 2), "run": SPLIT, "s": 1,
        "completion": (("firm", 1, (2, 3)), ("dropped", 2), ("dropped", 3)), "store": THREE, "word": ((0, 1), (1, -1)),
        "conditions": (), "operation": ("add", "x", 5), "keys": ("x", "y"), "log": LOG, "some": (1,), "i": 1,
        "many": 2, "here": 0, "state": (LOG, 1, ((2, ((0, 1),), (), True),)), "message": ("vote", 2, 0, (1,)), "rows": 2,
        "script": SCRIPT, "interleaving": (3, 1, 2, 2), "orders": FIRM, "text": "\n".join(LINES)}
# What a function needs instead: a history that is wrong, or a Store and no token store.
OTHERS = {(tokens.store_against, "history"): BARE, (tokens.result, "history"): BARE, (tokens.does_show, "history"): BARE,
          (cascades.cascade, "t"): 1, **{(getattr(views, name), "store"): after(*FIRM) for name in INTERFACE[views]}}

BAD = {"table": errors.BadTable, "facts": errors.BadFacts, "t": errors.BadTransaction, "u": errors.BadTransaction,
       "history": errors.BadHistory, "run": errors.BadRun, "outcome": errors.BadOutcome, "s": errors.BadSite,
       "completion": errors.BadCompletion, "one": errors.BadKind, "other": errors.BadKind, "store": errors.BadStore,
       "word": errors.BadWord, "conditions": errors.BadConditions, "operation": errors.BadOperation,
       "keys": errors.BadKeys, "log": errors.BadLog, "some": errors.BadTransactions, "i": errors.BadStep,
       "many": errors.BadMany, "here": errors.BadSite, "state": errors.BadState, "message": errors.BadMessage,
       "rows": errors.BadRows, "script": errors.BadScript, "interleaving": errors.BadInterleaving,
       "orders": errors.BadOrders}
# Functions of two values of one kind.
PAIRS = {tables.is_coarser: errors.BadTable, parts.merged: errors.BadFacts, parts.are_same_fates: errors.BadFacts}


def listed():
    return [(getattr(module, name), parameters) for module, names in INTERFACE.items()
            for name, parameters in names.items()]


def good_for(function, parameter):
    if function in (parts.merged, parts.are_same_fates):
        return SOME
    if function is tables.is_coarser:
        return CELLS
    return OTHERS.get((function, parameter), GOOD[parameter])


def odd_values():
    """Values of all kinds, objects of the package and parts of them among them."""
    return plain_things() + [
        stores.Store(2), after(*FIRM), benches.Bench(2), (stores.Store(2),), [benches.Bench(2)], (3, stores.Store(3)),
        ("do", 1, stores.Store(1)), (("do", 1, stores.Store(1), 0),), ("deliver", stores.Store(2)), (stores.Store(1), 0, ()),
        ("tell", stores.Store(1), 0), (("hear", stores.Store(1)),), (stores.Store(1), 1), {1: stores.Store(1)}]


def result(function, values):
    """What a call gives: its result, or its error and the value that the error names."""
    try:
        return ("result", function(**values))
    except errors.YesError as error:
        return (error.__class__, vars(error))


def is_plain(thing):
    """Whether a result consists of integers, strings, bools, None and tuples."""
    return type(thing) in (int, str, bool, type(None)) or (
        type(thing) is tuple and all(is_plain(part) for part in thing))


class Conventions(unittest.TestCase):
    def test_names_and_parameters(self):
        for module, names in INTERFACE.items():
            for name, parameters in names.items():
                found = getattr(module, name)
                self.assertTrue(inspect.isfunction(found), name)
                self.assertEqual(found.__module__, module.__name__)
                self.assertEqual(list(inspect.signature(found).parameters), parameters)
                for parameter in inspect.signature(found).parameters.values():
                    self.assertEqual(parameter.kind, parameter.POSITIONAL_OR_KEYWORD)
                    self.assertIs(parameter.default, parameter.empty)

    def test_by_position_and_by_name(self):
        for function, parameters in listed():
            values = {parameter: good_for(function, parameter) for parameter in parameters}
            backwards = dict(reversed(list(values.items())))
            self.assertEqual(function(*values.values()), function(**backwards), function.__name__)

    def test_any_values_change_nothing_and_give_the_same_again(self):
        for function, parameters in listed():
            for parameter in parameters:
                for thing in odd_values():
                    values = {other: good_for(function, other) for other in parameters}
                    values[parameter] = thing
                    before = repr(values)
                    first = result(function, values)
                    self.assertEqual(repr(values), before)
                    self.assertEqual(result(function, values), first)

    def test_lists_and_dicts_stay_as_they_are(self):
        for thing in ([("firm", 1, [])], {"a": [1]}, ([1], {2: [3]}), ("kept", [1]), ("open", [("firm", 7, ())], {}),
                      [("do", 1, "add")], (["do", 1, "add"],), ("yes", 1, [2]), ([0, ("fall",)],), ("serial", [1]),
                      (3, [(1, 0, 2)]), (["get", "x"],), (LOG, 0, [[2, [], [], False]]), ["what", 2], ("vote", 2, 0, [1])):
            for function, parameters in listed():
                for parameter in parameters:
                    values = {other: good_for(function, other) for other in parameters}
                    values[parameter] = copy.deepcopy(thing)
                    result(function, values)
                    self.assertEqual(values[parameter], thing)

    def test_true_and_false(self):
        for function, parameters in listed():
            if function.__name__.startswith(("is_", "are_", "may_", "does_")) or function.__name__.endswith("_holds"):
                for thing in odd_values():
                    values = {other: good_for(function, other) for other in parameters}
                    values[parameters[-1]] = thing
                    found = result(function, values)
                    self.assertTrue(found[0] != "result" or found[1] is True or found[1] is False)

    def test_results_are_tuples_and_strings(self):
        for function in (facts.kept_by, facts.dropped_by, facts.open_by):
            for given in ((), SOME):
                self.assertIs(type(function(given)), tuple)
        for t in range(10):
            self.assertIs(type(facts.fate(SOME, t)), str)
            self.assertIs(type(facts.needed(SOME, t)), tuple)
            thing = facts.judge_fate(SOME, t)
            self.assertEqual({type(thing), *[type(part) for part in thing[1:]]}, {tuple})

    def test_results_contain_no_lists(self):
        for function, parameters in listed():
            found = function(**{parameter: good_for(function, parameter) for parameter in parameters})
            self.assertTrue(is_plain(found) or function is benches.store_after, (function.__name__, found))

    def test_each_bad_value_is_named_before_those_behind_it(self):
        for function, parameters in listed():
            for at, parameter in enumerate(parameters):
                if parameter not in ("thing", "text"):
                    values = {other: good_for(function, other) for other in parameters[:at]}
                    values.update({other: "bad" for other in parameters[at:]})
                    expected = PAIRS.get(function, BAD[parameter])
                    self.assertEqual(result(function, values), (expected, {"thing": "bad"}), function.__name__)

    def test_the_first_error_is_raised(self):
        for call, error, thing in [
                (lambda: tables.does_conflict([], 1, 2), errors.BadTable, []),
                (lambda: tables.does_conflict(CELLS, 1, 2), errors.BadKind, 1),
                (lambda: tables.does_conflict(other=2, one="get", table=CELLS), errors.BadKind, 2),
                (lambda: tables.is_coarser(3, 4), errors.BadTable, 3),
                (lambda: tables.is_coarser(other=4, table=CELLS), errors.BadTable, 4),
                (lambda: facts.fate(t=-1, facts=[]), errors.BadFacts, []),
                (lambda: facts.needed(None, None), errors.BadFacts, None),
                (lambda: facts.judge_fate((1,), True), errors.BadFacts, (1,)),
                (lambda: facts.fate_holds((), True, None), errors.BadTransaction, True),
                (lambda: facts.fate_holds(thing=1, t=2, facts=3), errors.BadFacts, 3)]:
            with self.assertRaises(errors.YesError) as caught:
                call()
            self.assertIs(type(caught.exception), error)
            self.assertEqual(caught.exception.thing, thing)
            self.assertIs(type(caught.exception.thing), type(thing))

    def test_no_store_is_changed_by_a_function(self):
        store = after(*FIRM)
        before = seen(store)
        for function, parameters in listed():
            for parameter in parameters:
                values = {other: good_for(function, other) for other in parameters}
                values[parameter] = store
                result(function, values)
                self.assertEqual(seen(store), before, function.__name__)


class Classes(unittest.TestCase):
    def test_names_and_parameters(self):
        for kind, methods in CLASSES.items():
            self.assertEqual(kind.__bases__, (object,))
            for name, parameters in methods.items():
                # Defined in the class itself.
                found = vars(kind)[name]
                self.assertTrue(inspect.isfunction(found), name)
                self.assertEqual(list(inspect.signature(found).parameters), ["self"] + parameters)
                for parameter in inspect.signature(found).parameters.values():
                    self.assertEqual(parameter.kind, parameter.POSITIONAL_OR_KEYWORD)
                    self.assertIs(parameter.default, parameter.empty)
        self.assertEqual([kind.__module__ for kind in CLASSES], ["yesifs.stores", "yesifs.benches"])

    def test_any_values_change_nothing_and_give_the_same_again(self):
        for make, look in ((lambda: after(*FIRM), seen), (self.bench, self.seen_of)):
            for thing in odd_values():
                held = make()
                before = look(held)
                for name in ("do", "is_possible", "state", "is_up"):
                    if name in CLASSES[type(held)]:
                        parameter = CLASSES[type(held)][name][0]
                        first = result(getattr(held, name), {parameter: thing})
                        if not (name in ("state", "is_up") and type(thing) is int and thing in (0, 1)):
                            bad = errors.BadSite if name in ("state", "is_up") else errors.BadOrder
                            expected = ("result", False) if name == "is_possible" else (bad, {"thing": thing})
                            self.assertEqual(first, expected)
                        self.assertEqual(look(held), before)

    def bench(self):
        bench = benches.Bench(2)
        for order in FIRM:
            bench.do(order)
        return bench

    def seen_of(self, bench):
        return (bench.orders(), bench.text(), seen(bench.store()))

    def test_results(self):
        store, bench = after(*FIRM), self.bench()
        for found in (store.state(0), store.is_up(0), store.sent(), store.started(), store.facts(), bench.orders(),
                      bench.text(), store.is_possible(None), store.is_possible(("start", 9))):
            self.assertTrue(is_plain(found), found)
        self.assertIs(type(store.copied()), stores.Store)
        self.assertIs(type(bench.store()), stores.Store)
        for found in (bench.undo(), bench.redo(), bench.redo(), store.is_up(1)):
            self.assertIs(type(found), bool)
        self.assertIs(store.close(), None)

    def test_only_some_methods_change_an_object(self):
        store, bench = after(*FIRM), self.bench()
        before, held = seen(store), self.seen_of(bench)
        for _ in range(2):
            store.is_possible(("start", 3)), store.state(0), store.is_up(0), store.sent(), store.started()
            store.facts(), store.copied(), store == after(*FIRM), bench.store(), bench.orders(), bench.text()
        self.assertEqual(seen(store), before)
        self.assertEqual(self.seen_of(bench), held)


if __name__ == "__main__":
    unittest.main()
