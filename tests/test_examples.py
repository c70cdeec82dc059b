"""The examples of DOC.md as they stand."""

import unittest

from yesifs.benches import Bench, read_text, store_after
from yesifs.cascades import cascade, greatest_cascade, log_of, waits
from yesifs.errors import BadText, Clash, IsRight
from yesifs.facts import are_facts, dropped_by, fate, fate_holds, judge_fate, kept_by, needed, open_by
from yesifs.judge import (full_conditions, history_holds, is_right, is_right_now, is_sufficient, judge_history,
                          least_conditions, supports)
from yesifs.logs import (answer_of, do_row, history_of, is_log, kind_of, refuse_rows, settle_rows, values,
                         yes_row)
from yesifs.parts import are_same_fates, is_reason, merged, reason
from yesifs.runs import (are_sites_right, completions, facts_of, is_right_run, is_run, judge_run, run_holds,
                         site_history)
from yesifs.sending import fallen, goes_to, received, restarted
from yesifs.sites import is_event, is_history, known_kept, lost, outcomes, settled, state_of, word_of
from yesifs.stores import Store
from yesifs.tables import does_conflict, is_coarser, is_table
from yesifs.tokens import does_show, is_store, result, store_against, weakened
from yesifs.views import order_holds, serial_order, store_run, store_table


class Examples(unittest.TestCase):
    def test_tables(self):
        CELLS = (("add", "get"), (("add", "get"),))
        self.assertEqual(
            [is_table(CELLS), does_conflict(CELLS, "get", "add"), does_conflict(CELLS, "add", "add"),
             is_coarser(CELLS, (("add", "get"), ())), is_table((("get", "add"), ()))],
            [True, True, False, True, False])

    def test_facts(self):
        SOME = (("firm", 1, ()), ("firm", 2, (1,)), ("firm", 3, (2, 7)), ("dropped", 4), ("firm", 5, (4,)),
                ("firm", 8, (9,)), ("firm", 9, (8,)))
        self.assertEqual(
            [are_facts(SOME), kept_by(SOME), dropped_by(SOME), open_by(SOME), needed(SOME, 3), needed(SOME, 2)],
            [True, (1, 2), (4, 5, 8, 9), (3, 7), (7,), ()])
        self.assertEqual(
            [judge_fate(SOME, 2), judge_fate(SOME, 5), fate(SOME, 6), fate_holds(SOME, 8, ("dropped", (8, 9, 8))),
             fate_holds(SOME, 3, ("open", (("firm", 7, ()),), (("dropped", 7),)))],
            [('kept', (1, 2)), ('dropped', (5, 4)), 'open', True, True])

    def test_parts(self):
        SOME = (("firm", 1, ()), ("firm", 2, (1,)), ("dropped", 4), ("firm", 5, (2, 4)))
        self.assertEqual(
            [merged(SOME[:2], SOME[1:3]), reason(SOME, 2), reason(SOME, 5), is_reason(SOME, 5, SOME),
             are_same_fates((("dropped", 3), ("firm", 6, (3,))), (("dropped", 3), ("dropped", 6)))],
            [(('firm', 1, ()), ('firm', 2, (1,)), ('dropped', 4)), (('firm', 1, ()), ('firm', 2, (1,))),
             (('dropped', 4), ('firm', 5, (2, 4))), False, True])
        with self.assertRaises(Clash) as caught:
            merged((("dropped", 3),), (("firm", 3, ()),))
        self.assertEqual(caught.exception.t, 3)

    def test_sites(self):
        CELLS = (("add", "get"), (("add", "get"),))
        LENT = (("do", 1, "add"), ("do", 2, "get"), ("yes", 2, (1,)), ("yes", 1, ()))
        self.assertEqual(
            [is_history(CELLS, LENT), outcomes(CELLS, LENT), settled(CELLS, LENT, (1,)), settled(CELLS, LENT, ()),
             state_of(CELLS, LENT, 2), state_of(CELLS, LENT[:3] + (("fall",),), 2)],
            [True, ((), (1,), (1, 2)), ((0, 1), (1, 1), (1, -1)), ((0, 1), (1, 1), (1, -1), (0, -1)), 'voted', 'lost'])
        HEARD = LENT + (("hear", ("firm", 1, ())), ("hear", ("firm", 2, (1,))))
        self.assertEqual(
            [known_kept(CELLS, HEARD), outcomes(CELLS, HEARD), word_of(CELLS, LENT[:3] + (("fall",),)),
             lost(CELLS, LENT[:3] + (("fall",),)), is_event(CELLS, LENT, ("hear", ("firm", 2, ())))],
            [(1, 2), ((1, 2),), ((0, 1), (1, 1), (1, -1), (0, -1)), (1, 2), False])

    def test_judge(self):
        CELLS = (("add", "get"), (("add", "get"),))
        BUILT = (("do", 1, "add"), ("do", 2, "get"), ("do", 3, "add"))
        self.assertEqual(
            [supports(CELLS, BUILT), full_conditions(CELLS, BUILT, 3), full_conditions(CELLS, BUILT, 2),
             least_conditions(CELLS, BUILT, 3), is_sufficient(CELLS, BUILT, 2, ())],
            [((1, 2), (2, 3)), (2,), (1,), (2,), False])
        BARE = (("do", 1, "add"), ("do", 2, "get"), ("yes", 2, ()))
        self.assertEqual(
            [judge_history(CELLS, BARE), is_right_now(CELLS, BARE),
             is_right(CELLS, BUILT + (("yes", 3, (2,)), ("yes", 1, ()), ("yes", 2, (1,))))],
            [('wrong', 2, ('vote', 2, 1)), False, True])
        EARLY = (("do", 1, "add"), ("do", 2, "get"), ("no", 1), ("back", 1, 0))
        self.assertEqual(
            [judge_history(CELLS, EARLY), history_holds(CELLS, EARLY, ("wrong", 3, ("back", 0, 1))),
             is_right(CELLS, EARLY[:3] + (("fall",),))],
            [('wrong', 3, ('back', 0, 1)), True, True])

    def test_runs(self):
        CELLS = (("add", "get"), (("add", "get"),))
        CROSS = ((0, ("do", 1, "add")), (0, ("do", 2, "get")), (1, ("do", 2, "add")), (1, ("do", 1, "get")),
                 (0, ("yes", 1, ())), (0, ("yes", 2, (1,))), (1, ("yes", 1, (2,))), (1, ("yes", 2, ())))
        self.assertEqual(
            [is_run(CELLS, CROSS), site_history(CELLS, CROSS, 1)[:2], completions(CELLS, CROSS)[-1],
             judge_run(CELLS, CROSS, completions(CELLS, CROSS)[-1]), are_sites_right(CELLS, CROSS),
             is_right_run(CELLS, CROSS)],
            [True, (('do', 2, 'add'), ('do', 1, 'get')), (('firm', 1, (2,)), ('firm', 2, (1,))), ('serial', ()), True,
             True])
        WORSE = CROSS[:5] + ((0, ("yes", 2, ())), (1, ("yes", 1, ())), (1, ("yes", 2, ())))
        self.assertEqual(
            [run_holds(CELLS, WORSE, (("firm", 1, ()), ("firm", 2, ())), ("ring", (1, 2))),
             are_sites_right(CELLS, WORSE), facts_of(CELLS, WORSE)],
            [True, False, ()])

    def test_tokens(self):
        CELLS = (("add", "get"), (("add", "get"),))
        BARE = (("do", 1, "add"), ("do", 2, "get"), ("yes", 2, ()))
        THREE = (3, ((1, 0, 2), (0, 2, 1), (0, 1, 2)))
        self.assertEqual(
            [is_store(CELLS, BARE, THREE), result(CELLS, BARE, THREE, ((0, 1), (1, 1))),
             does_show(CELLS, BARE, (2,), THREE), store_against(CELLS, BARE)[0], weakened(CELLS, BARE[:2], 2, ())[0]],
            [True, (1, 2, 0), True, (2,), (2,)])
        with self.assertRaises(IsRight):
            store_against(CELLS, BARE[:2])

    def test_logs(self):
        LOG = (("do", 1, ("add", "x", 5), 0), ("do", 2, ("get", "x"), 5), ("do", 3, ("add", "y", 1), 0))
        self.assertEqual(
            [is_log(LOG), kind_of(("set", "x", 7)), history_of(LOG), values(LOG), answer_of(LOG, 1), yes_row(LOG, 2),
             do_row(LOG, 3, ("set", "x", 8))],
            [True, 'sx', (('do', 1, 'ax'), ('do', 2, 'gx'), ('do', 3, 'ay')), (('x', 5), ('y', 1)), 5,
             ('yes', 2, (1,)), ('do', 3, ('set', 'x', 8), 5)])
        self.assertEqual(
            [refuse_rows(LOG, (1,)), refuse_rows(LOG + (("yes", 2, (1,)),), (1,)), settle_rows(LOG),
             values(LOG + refuse_rows(LOG, (1,)))],
            [(('no', 1), ('no', 2), ('back', 2, 1), ('back', 1, 0)), (('no', 1), ('back', 2, 1), ('back', 1, 0)), (),
             (('y', 1),)])

    def test_sending(self):
        LOG = (("do", 1, ("add", "x", 5), 0), ("do", 2, ("get", "x"), 5))
        STATE, OUT = received(2, 0, (LOG, 0, ()), ("ask", 2, 0, 1))
        self.assertEqual(
            [STATE, OUT, goes_to(2, OUT[0]), received(2, 0, STATE, ("ask", 1, 0, 2))[1]],
            [((('do', 1, ('add', 'x', 5), 0), ('do', 2, ('get', 'x'), 5), ('yes', 2, (1,))), 3, ()),
             (('vote', 2, 0, (1,)),), 0, (('vote', 1, 0, None),)])
        self.assertEqual(
            [fallen(2, 0, (LOG, 1, ()), 1), restarted(2, 0, fallen(2, 0, STATE, 3))[0][3:],
             received(2, 0, STATE, ("what", 2))[1]],
            [((('do', 1, ('add', 'x', 5), 0),), 1, ()), (('no', 1), ('back', 2, 1), ('back', 1, 0)),
             (('tell', ('dropped', 2), 1),)])

    def test_stores(self):
        store = Store(2)
        self.assertEqual(
            [store.do(("start", 1)), store.do(("start", 2)), store.do(("do", 1, 0, ("add", "x", 5))),
             store.do(("do", 2, 0, ("get", "x"))), store.do(("ask", 2)), store.sent()],
            [None, None, 0, 5, None, (('ask', 2, 0, 1),)])
        self.assertEqual(
            [store.do(("deliver", ("ask", 2, 0, 1))), store.do(("deliver", ("vote", 2, 0, (1,)))), store.facts(),
             store.do(("give", 1)), store.close(), store.facts(), store.state(0)[0][-2:]],
            [None, None, (('firm', 2, (1,)),), None, None, (('dropped', 1), ('firm', 2, (1,))),
             (('back', 2, 1), ('back', 1, 0))])

    def test_cascades(self):
        SCRIPT = ((1, (("add", "x", 5),)), (2, (("get", "x"), ("set", "y", 1))), (3, (("get", "y"),)))
        self.assertEqual(
            [log_of(SCRIPT, (1, 2, 2, 3)), cascade(log_of(SCRIPT, (1, 2, 2, 3)), 1),
             cascade(log_of(SCRIPT, (3, 1, 2, 2)), 1), waits(SCRIPT, (3, 1, 2, 2)), greatest_cascade(SCRIPT, 1)],
            [(('do', 1, ('add', 'x', 5), 0), ('do', 2, ('get', 'x'), 5), ('do', 2, ('set', 'y', 1), 0),
              ('do', 3, ('get', 'y'), 1)), ((1, 2, 3), 4), ((1, 2), 3), ((0, 3), (1, 2)),
             ((1, 2, 3), 4, (1, 2, 2, 3))])

    def test_views(self):
        STORE = store_after(2, (("start", 1), ("do", 1, 0, ("set", "x", 3)), ("ask", 1),
                                ("deliver", ("ask", 1, 0, 1)), ("deliver", ("vote", 1, 0, ()))))
        self.assertEqual(
            [store_table(STORE), store_run(STORE), serial_order(STORE), order_holds(STORE, ())],
            [(('ax', 'gx', 'sx'), (('ax', 'gx'), ('ax', 'sx'), ('gx', 'sx'), ('sx', 'sx'))),
             ((0, ('do', 1, 'sx')), (0, ('yes', 1, ())), (1, ('hear', ('firm', 1, ())))), (1,), False])

    def test_benches(self):
        bench = Bench(2)
        self.assertEqual(
            [bench.do(("start", 1)), bench.do(("do", 1, 0, ("set", "x", 3))), bench.undo(), bench.redo(), bench.undo(),
             bench.orders(), bench.text()],
            [None, 0, True, True, True, (('start', 1),), 'sites 2\nstart 1'])
        TEXT = "sites 2\nstart 1\ndo 1 0 set x 3\nask 1\ndeliver ask 1 0 1\ndeliver vote 1 0 -"
        self.assertEqual(
            [read_text(TEXT)[1][2:], store_after(2, read_text(TEXT)[1]).facts()],
            [(('ask', 1), ('deliver', ('ask', 1, 0, 1)), ('deliver', ('vote', 1, 0, ()))), (('firm', 1, ()),)])
        with self.assertRaises(BadText) as caught:
            read_text("sites 2\nask 1")
        self.assertEqual(caught.exception.at, 2)


if __name__ == "__main__":
    unittest.main()
