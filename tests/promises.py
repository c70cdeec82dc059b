"""What DOC.md promises of each store, whatever orders led to it ([8.4], [9.4], [10.3], [10.4], [12.2])."""

from yesifs.facts import kept_by
from yesifs.judge import is_right
from yesifs.logs import history_of, is_log, table_of, values
from yesifs.runs import are_sites_right, completions, is_run, judge_run
from yesifs.sending import is_message, is_state
from yesifs.sites import lost, state_of
from yesifs.views import order_holds, serial_order, store_run, store_table


class Watch:
    """What was seen of a store after each order: the fact of each transaction, and its votes."""

    def __init__(self):
        self.facts = {}
        self.votes = {}

    def look(self, test, store):
        """All facts of one transaction are the same, over all sites and all falls, and so are all votes of a site."""
        for s in range(store.many):
            for row in store.state(s)[0]:
                if row[0] == "hear":
                    test.assertEqual(self.facts.setdefault(row[1][1], row[1]), row[1])
        for message in store.sent():
            if message[0] == "vote":
                test.assertEqual(self.votes.setdefault(message[1:3], message[3]), message[3])


def logs_of(store):
    return [store.state(s)[0] for s in range(store.many)]


def look_at(test, store):
    """The states are states, the logs are logs, and what all facts keep is lost nowhere."""
    kept = kept_by(store.facts())
    for s in range(store.many):
        test.assertIs(is_state(store.many, s, store.state(s)), True)
        log = store.state(s)[0]
        test.assertIs(is_log(log), True)
        table, history = table_of(log), history_of(log)
        test.assertIs(is_right(table, history), True)
        test.assertEqual(set(kept) & set(lost(table, history)), set())
        for t in kept:
            test.assertNotEqual(state_of(table, history, t), "lost")
    test.assertTrue(all(is_message(store.many, message) for message in store.sent()))


def look_at_run(test, store):
    """There is a run of the histories, its sites are right, and one order fits all of them."""
    table, run = store_table(store), store_run(store)
    test.assertIs(is_run(table, run), True, (table, run))
    for s, log in enumerate(logs_of(store)):
        test.assertEqual(tuple([event for place, event in run if place == s]), history_of(log))
    test.assertIs(are_sites_right(table, run), True)
    for completion in completions(table, run)[:40]:
        test.assertEqual(judge_run(table, run, completion)[0], "serial")
    order = serial_order(store)
    test.assertIs(order_holds(store, order), True)
    test.assertEqual(sorted(order), list(kept_by(store.facts())))


def look_at_end(test, store):
    """After it is closed, its values are those of the kept transactions, one after another."""
    facts = {fact[1]: fact for fact in store.facts()}
    test.assertEqual(tuple(facts), store.started())
    order = serial_order(store)
    for s, log in enumerate(logs_of(store)):
        test.assertIs(store.is_up(s), True)
        test.assertEqual(store.state(s)[2], ())
        test.assertEqual({row[1][1]: row[1] for row in log if row[0] == "hear"}, facts)
        found = {}
        for t in order:
            for row in log:
                if row[:2] == ("do", t):
                    key = row[2][1]
                    if row[2][0] == "get":
                        test.assertEqual(row[3], found.get(key, 0))
                    else:
                        found[key] = row[2][2] + (found.get(key, 0) if row[2][0] == "add" else 0)
        test.assertEqual(values(log), tuple(sorted([pair for pair in found.items() if pair[1] != 0])))


def look_at_all(test, store):
    """All of this for a store and, without changing it, for what closing it leads to."""
    look_at(test, store)
    look_at_run(test, store)
    closed = store.copied()
    test.assertEqual(closed, store)
    test.assertIs(closed.close(), None)
    look_at(test, closed)
    look_at_run(test, closed)
    look_at_end(test, closed)
    again = closed.copied()
    again.close()
    test.assertEqual([again.state(s) for s in range(again.many)], [closed.state(s) for s in range(closed.many)])
    return closed
