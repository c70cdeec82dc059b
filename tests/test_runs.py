"""Runs over several sites, their completions and certificates (part 6)."""

import unittest
from itertools import permutations

from tests import reference
from tests import reference_runs as runs
from tests.test_histories import CELLS, EMPTY, LENT, NEVER, TWO
from tests.test_sites import NO_TABLES
from tests.things import altered, plain_things
from yesifs.errors import BadCompletion, BadRun, BadSite, BadTable
from yesifs.runs import (are_sites_right, completions, facts_of, is_right_run, is_run, judge_run, run_holds,
                         site_history)

CROSS = ((0, ("do", 1, "add")), (0, ("do", 2, "get")), (1, ("do", 2, "add")), (1, ("do", 1, "get")),
         (0, ("yes", 1, ())), (0, ("yes", 2, (1,))), (1, ("yes", 1, (2,))), (1, ("yes", 2, ())))
WORSE = CROSS[:5] + ((0, ("yes", 2, ())), (1, ("yes", 1, ())), (1, ("yes", 2, ())))
BOTH = (("firm", 1, ()), ("firm", 2, ()))
# One transaction at two sites, and a vote for it at each.
SPLIT = ((0, ("do", 2, "add")), (0, ("do", 1, "get")), (1, ("do", 3, "add")), (1, ("do", 1, "get")),
         (0, ("yes", 1, (2,))), (1, ("yes", 1, (3,))))
FIRM = ("hear", ("firm", 1, (2, 3)))
# At each of three sites one transaction comes before the next one.
ROUND = tuple([(s, ("do", t, kind)) for s, (t, u) in enumerate([(1, 2), (2, 3), (3, 1)])
               for t, kind in ((t, "add"), (u, "get"))]
              + [(s, ("yes", t, ())) for s, pair in enumerate([(1, 2), (2, 3), (3, 1)]) for t in pair])
THRICE = (("firm", 1, ()), ("firm", 2, ()), ("firm", 3, ()))


def at(s, history):
    return tuple([(s, event) for event in history])


# Here 2, 3 and 4 go round, 0 comes before 3, and 1 only comes after 4.
APART = tuple([(s, ("do", t, kind)) for s, steps in enumerate([((0, "add"), (2, "add"), (3, "get")), ((3, "add"), (4, "get")),
                                                               ((4, "add"), (2, "get")), ((4, "add"), (1, "get"))])
               for t, kind in steps]
              + [(s, ("yes", t, ())) for s, some in enumerate([(0, 2, 3), (3, 4), (4, 2), (4, 1)]) for t in some])


class Case(unittest.TestCase):
    def run_is(self, expected, *runs_):
        for run in runs_:
            self.assertIs(is_run(CELLS, run), expected, run)
            self.assertIs(is_run(thing=run, table=CELLS), expected)
            self.assertIs(runs.is_run(CELLS, run), expected)

    def good(self, *runs_):
        self.run_is(True, *runs_)

    def bad(self, *runs_):
        self.run_is(False, *runs_)

    def raises(self, error, thing, call):
        with self.assertRaises(error) as caught:
            call()
        self.assertIs(caught.exception.thing, thing)


class IsRun(Case):
    def test_histories_of_sites(self):
        self.good((), CROSS, WORSE, SPLIT, ROUND)
        for s in range(4):
            self.good(at(s, LENT))
            self.bad(at(s, LENT[::-1]), at(s, LENT + LENT[-1:]))
        self.good(at(0, LENT) + at(3, LENT), tuple([(s, event) for event in LENT for s in range(4)]))
        # What one site knows is not known at another one.
        self.good(at(0, TWO) + ((1, ("do", 1, "add")), (0, ("fall",)), (1, ("yes", 1, ()))))
        self.bad(at(0, TWO) + ((1, ("yes", 1, ())),), at(0, TWO) + ((1, ("do", 2, "add")), (1, ("yes", 2, (1,)))))

    def test_sites(self):
        for s in (4, -1, 5, True, False, None, "0", (0,), [0]):
            self.bad(((s, ("fall",)),), at(0, TWO) + ((s, ("fall",)),))

    def test_parts_that_are_no_pairs(self):
        for part in [(0,), (0, ("fall",), 1), [0, ("fall",)], ("fall",), 0, None, (), "ab", (("fall",), 0), {}]:
            self.bad((part,), at(0, TWO) + (part,))
        self.bad([(0, ("fall",))], {0: ("fall",)}, "run", None, (0, ("fall",)))
        for event in NEVER + plain_things():
            self.bad(at(0, TWO) + ((0, event),), ((1, event),))

    def test_facts_that_clash(self):
        for one, other, expected in [(("dropped", 1), ("dropped", 1), True), (("dropped", 1), ("dropped", 2), True)]:
            self.run_is(expected, ((0, ("hear", one)), (1, ("hear", other))))
        voted = at(0, TWO + (("yes", 1, ()),)) + at(1, (("do", 2, "add"), ("do", 1, "add")))
        told = voted + ((1, ("yes", 1, ())), (0, ("hear", ("firm", 1, ()))))
        self.good(told + ((1, ("hear", ("firm", 1, ()))),), told + ((2, ("hear", ("firm", 1, ()))),))
        self.bad(told + ((1, ("hear", ("dropped", 1))),), told + ((2, ("hear", ("dropped", 1))),),
                 told + ((1, ("hear", ("firm", 1, (2,)))),), told + ((2, ("hear", ("firm", 1, (2,)))),))
        dropped = voted + ((1, ("yes", 1, ())), (0, ("hear", ("dropped", 1))))
        self.good(dropped + ((1, ("hear", ("dropped", 1))),))
        self.bad(dropped + ((1, ("hear", ("firm", 1, ()))),), dropped + ((2, ("hear", ("firm", 1, ()))),))

    def test_a_firm_fact_after_all_votes(self):
        for s in range(4):
            self.good(SPLIT + ((s, FIRM),))
            self.bad(SPLIT[:4] + ((s, FIRM),))
        self.bad(SPLIT[:5] + ((0, FIRM),), SPLIT[:5] + ((2, FIRM),), SPLIT[:5] + ((2, FIRM), SPLIT[5]))
        self.good(SPLIT + ((2, FIRM), (0, FIRM), (3, FIRM), (1, FIRM)))
        # Without a step there is no vote.
        self.bad(((0, ("hear", ("firm", 1, ()))),), at(0, TWO) + ((1, ("hear", ("firm", 3, ()))),))

    def test_the_conditions_of_a_firm_fact(self):
        for conditions in [(), (2,), (3,), (2, 3, 4), (0, 2, 3), (2, 4), (4, 5)]:
            for s in range(4):
                self.bad(SPLIT + ((s, ("hear", ("firm", 1, conditions))),))
        self.good(at(0, LENT) + ((0, ("hear", ("firm", 2, (1,)))),))
        self.bad(at(0, LENT) + ((0, ("hear", ("firm", 2, (1, 3)))),))

    def test_a_vote_against_it(self):
        self.bad(SPLIT + ((2, ("no", 1)), (0, FIRM)), SPLIT + ((2, ("no", 1)), (3, FIRM)),
                 SPLIT + ((0, FIRM), (2, ("no", 1))), SPLIT + ((0, FIRM), (1, FIRM), (3, ("no", 1))),
                 ((2, ("no", 1)),) + SPLIT + ((0, FIRM),))
        self.good(SPLIT + ((2, ("no", 1)), (0, ("hear", ("dropped", 1)))),
                  SPLIT + ((0, ("hear", ("dropped", 1))), (2, ("no", 1))), SPLIT + ((0, FIRM), (2, ("no", 2))),
                  SPLIT + ((2, FIRM), (2, ("no", 3)), (0, ("no", 2))))

    def test_a_step_after_it(self):
        self.bad(SPLIT + ((0, FIRM), (2, ("do", 1, "add"))), SPLIT + ((3, FIRM), (2, ("do", 1, "add"))),
                 SPLIT + ((2, ("do", 1, "add")), (0, FIRM)))
        self.good(SPLIT + ((2, ("do", 1, "add")), (2, ("yes", 1, ())), (0, FIRM)),
                  SPLIT + ((0, FIRM), (2, ("do", 4, "add"))),
                  SPLIT + ((0, ("hear", ("dropped", 1))), (2, ("do", 1, "add")), (2, ("yes", 1, ()))))

    def test_a_dropped_fact_at_any_time(self):
        for p in range(len(SPLIT) + 1):
            self.good(SPLIT[:p] + ((3, ("hear", ("dropped", 1))),) + SPLIT[p:])
        self.good(((0, ("hear", ("dropped", 1))),), SPLIT + ((0, ("hear", ("dropped", 1))),))

    def test_altered_runs(self):
        for run in (SPLIT[:2] + SPLIT[4:5], CROSS[:2] + ((0, ("no", 1)), (0, ("back", 1, 0)), (1, ("fall",)))):
            for thing in altered(run):
                self.assertIs(is_run(CELLS, thing), runs.is_run(CELLS, thing), thing)

    def test_any_values(self):
        for thing in plain_things():
            self.assertIs(is_run(CELLS, thing), thing == ())


class Parts(Case):
    def test_the_history_of_a_site(self):
        for run in ((), CROSS, SPLIT + ((2, FIRM), (0, FIRM)), ROUND):
            for s in range(4):
                expected = tuple([event for site, event in run if site == s])
                self.assertEqual(site_history(CELLS, run, s), expected)
                self.assertEqual(site_history(s=s, run=run, table=CELLS), expected)

    def test_facts(self):
        for run, expected in [((), ()), (CROSS, ()), (SPLIT + ((2, FIRM),), (FIRM[1],)),
                              (SPLIT + ((2, FIRM), (0, FIRM), (3, ("hear", ("dropped", 0)))), (("dropped", 0), FIRM[1])),
                              (((3, ("hear", ("dropped", 7))), (0, ("hear", ("dropped", 2)))),
                               (("dropped", 2), ("dropped", 7)))]:
            self.assertEqual(facts_of(CELLS, run), expected)
            self.assertEqual(facts_of(run=run, table=CELLS), expected)


class Completions(Case):
    def check(self, run, *expected):
        self.assertEqual(completions(CELLS, run), expected)
        self.assertEqual(completions(run=run, table=CELLS), expected)
        self.assertEqual(runs.completions(run), expected)
        for completion in expected:
            self.assertIn(judge_run(CELLS, run, completion)[0], ("serial", "site", "ring"))

    def test_nothing(self):
        self.check((), ())
        # A vote "no" alone makes no transaction one of the completion.
        self.check(((0, ("no", 5)), (1, ("fall",))), ())

    def test_voted(self):
        one, two = ("firm", 1, (2,)), ("firm", 2, (1,))
        self.check(CROSS, (("dropped", 1), ("dropped", 2)), (("dropped", 1), two), (one, ("dropped", 2)), (one, two))

    def test_not_all_have_voted(self):
        left = (("dropped", 2), ("dropped", 3))
        self.check(SPLIT[:4], (("dropped", 1),) + left)
        self.check(SPLIT[:5], (("dropped", 1),) + left)
        self.check(SPLIT, (("dropped", 1),) + left, (FIRM[1],) + left)

    def test_a_vote_against_it(self):
        left = (("dropped", 2), ("dropped", 3))
        self.check(SPLIT + ((2, ("no", 1)),), (("dropped", 1),) + left)
        self.check(((3, ("no", 1)),) + SPLIT, (("dropped", 1),) + left)
        self.check(SPLIT[:5] + ((1, ("no", 1)),), (("dropped", 1),) + left)

    def test_a_fall(self):
        left = (("dropped", 2), ("dropped", 3))
        self.check(SPLIT[:5] + ((1, ("fall",)),), (("dropped", 1),) + left)
        self.check(SPLIT + ((1, ("fall",)),), (("dropped", 1),) + left, (FIRM[1],) + left)

    def test_heard(self):
        left = (("dropped", 2), ("dropped", 3))
        self.check(SPLIT + ((2, FIRM),), (FIRM[1],) + left)
        self.check(SPLIT + ((2, ("hear", ("dropped", 1))),), (("dropped", 1),) + left)
        self.check(SPLIT + ((2, FIRM), (3, ("hear", ("dropped", 9))), (0, ("yes", 2, ()))),
                   (FIRM[1], ("dropped", 2), ("dropped", 3), ("dropped", 9)),
                   (FIRM[1], ("firm", 2, ()), ("dropped", 3), ("dropped", 9)))

    def test_values_that_are_no_completions(self):
        good = completions(CELLS, CROSS)
        things = [(), BOTH, good, list(good[0]), good[0][::-1], good[0][:1], good[0] * 2, good[0] + (("dropped", 3),),
                  (("dropped", True), ("dropped", 2)), (("firm", 1, (True,)), ("dropped", 2)), ("dropped", 1), None,
                  (("firm", 1, (2, 3)), ("dropped", 2)), (("firm", 1, [2]), ("dropped", 2)), (["dropped", 1],),
                  *plain_things(), *[thing for thing in altered(good[-1]) if thing not in good]]
        for thing in things:
            for call in (lambda: judge_run(CELLS, CROSS, thing), lambda: run_holds(CELLS, CROSS, thing, None),
                         lambda: judge_run(completion=thing, run=CROSS, table=CELLS),
                         lambda: run_holds(thing=("serial", ()), completion=thing, run=CROSS, table=CELLS)):
                self.raises(BadCompletion, thing, call)
        self.raises(BadCompletion, BOTH, lambda: judge_run(CELLS, (), BOTH))


class Certificates(Case):
    def check(self, table, run, completion, words, *right):
        """The certificate has one of these words, and these ones are right."""
        thing = judge_run(table, run, completion)
        self.assertEqual(judge_run(completion=completion, run=run, table=table), thing)
        self.assertIn(thing[0], words)
        self.assertIs(run_holds(table, run, completion, thing), True)
        orders = [order for size in range(5) for order in permutations(range(5), size)]
        for thing in [("site", s) for s in range(4)] + [(word, order) for word in ("serial", "ring") for order in orders]:
            self.assertIs(run_holds(table, run, completion, thing), thing in right, thing)
            self.assertIs(run_holds(thing=thing, completion=completion, run=run, table=table), thing in right)

    def test_serial(self):
        self.check(CELLS, (), (), ("serial",), ("serial", ()))
        for completion in completions(CELLS, CROSS):
            kept = tuple(sorted(reference.kept(completion)))
            self.check(CELLS, CROSS, completion, ("serial",), ("serial", kept))
        run = at(0, LENT) + at(1, (("do", 3, "add"), ("yes", 3, ())))
        self.check(CELLS, run, (("firm", 1, ()), ("firm", 2, (1,)), ("firm", 3, ())), ("serial",),
                   ("serial", (1, 2, 3)), ("serial", (1, 3, 2)), ("serial", (3, 1, 2)))
        self.check(CELLS, run, (("dropped", 1), ("firm", 2, (1,)), ("firm", 3, ())), ("serial",), ("serial", (3,)))
        self.check((("add", "get"), ()), run, (("firm", 1, ()), ("firm", 2, (1,)), ("dropped", 3)), ("serial",),
                   ("serial", (1, 2)), ("serial", (2, 1)))

    def test_a_site(self):
        # 2 is kept and 1 is not, though 2 has built on it.
        run = at(0, LENT[:2] + (("yes", 2, ()), ("yes", 1, ()))) + at(2, (("do", 3, "add"), ("yes", 3, ())))
        left = (("firm", 3, ()),)
        self.check(CELLS, run, (("dropped", 1), ("firm", 2, ())) + left, ("site",), ("site", 0))
        self.check(CELLS, run, BOTH + left, ("serial",), ("serial", (1, 2, 3)), ("serial", (1, 3, 2)),
                   ("serial", (3, 1, 2)))
        moved = tuple([(s ^ 2, event) for s, event in run])
        self.check(CELLS, moved, (("dropped", 1), ("firm", 2, ())) + left, ("site",), ("site", 2))

    def test_a_site_with_nothing_kept(self):
        run = at(3, TWO + (("no", 1), ("back", 1, 0)))
        self.check(CELLS, run, (("dropped", 1), ("dropped", 2)), ("site",), ("site", 3))

    def test_a_site_with_a_ring(self):
        run = at(1, TWO + (("do", 1, "get"), ("do", 2, "add"), ("yes", 1, ()), ("yes", 2, ())))
        self.check(CELLS, run, BOTH, ("serial",), ("serial", (1, 2)))
        run = at(1, TWO + (("do", 1, "add"), ("yes", 1, ()), ("yes", 2, ())))
        self.check(CELLS, run, BOTH, ("site", "ring"), ("site", 1), ("ring", (1, 2)), ("ring", (2, 1)))

    def test_a_ring(self):
        self.check(CELLS, WORSE, BOTH, ("ring",), ("ring", (1, 2)), ("ring", (2, 1)))
        self.check(CELLS, WORSE, (("dropped", 1), ("firm", 2, ())), ("site",), ("site", 0))
        self.check(CELLS, ROUND, THRICE, ("ring",), ("ring", (1, 2, 3)), ("ring", (2, 3, 1)), ("ring", (3, 1, 2)))
        self.check(CELLS, ROUND, THRICE[:2] + (("dropped", 3),), ("site",), ("site", 2))

    def test_a_ring_behind_others(self):
        # 4 builds on the ring of 1, 2 and 3, and 0 is before it; neither is in it.
        run = at(3, (("do", 0, "add"), ("do", 1, "get"), ("yes", 0, ()), ("yes", 1, ()))) + ROUND + at(
            3, (("do", 2, "add"), ("do", 4, "get"), ("yes", 2, ()), ("yes", 4, ())))
        completion = (("firm", 0, ()),) + THRICE + (("firm", 4, ()),)
        self.check(CELLS, run, completion, ("ring",), ("ring", (1, 2, 3)), ("ring", (2, 3, 1)), ("ring", (3, 1, 2)))

    def test_any_values(self):
        cases = [(WORSE, BOTH, ("ring", (1, 2))), (ROUND, THRICE, ("ring", (2, 3, 1))), ((), (), ("serial", ())),
                 (WORSE, (("dropped", 1), ("firm", 2, ())), ("site", 0)),
                 (at(0, LENT), (("firm", 1, ()), ("firm", 2, (1,))), ("serial", (1, 2)))]
        for run, completion, good in cases:
            self.assertIs(run_holds(CELLS, run, completion, good), True)
            for thing in plain_things() + list(altered(good)):
                self.assertIs(run_holds(CELLS, run, completion, thing), runs.holds(CELLS, run, completion, thing), thing)
        for thing in [("serial", (1, 2), ()), ["serial", (1, 2)], ("serial", [1, 2]), ("serial", (True, 2)), ("serial",),
                      ("serial", (1, 2, 2)), ("serial", (1,)), ("serial", (1, 2, 3)), ("serial", ()), ("Serial", (1, 2)),
                      ("order", (1, 2)), ("serial", None), ("serial", ("1", "2")), ("serial", ([1], 2)), ("serial", 12)]:
            self.assertIs(run_holds(CELLS, at(0, LENT), (("firm", 1, ()), ("firm", 2, (1,))), thing), False, thing)
        for thing in [("site", False), ("site", 0, 0), ["site", 0], ("site", (0,)), ("site", "0"), ("site", None),
                      ("site", -1), ("site", 1), ("site", 4), ("site",), ("site", [])]:
            self.assertIs(run_holds(CELLS, WORSE, (("dropped", 1), ("firm", 2, ())), thing), False, thing)
        for thing in [("ring", ()), ("ring", (1,)), ("ring", (1, 1)), ("ring", (1, 2, 1)), ("ring", (1, 2, 1, 2)),
                      ("ring", (True, 2)), ("ring", [1, 2]), ("ring", (1, 2, 3)), ("ring", ([1], 2)), ("ring", (1, [2])),
                      ("ring", None), ("ring", 2), ("ring", (1, 2), ()), ["ring", (1, 2)], ("ring", (1, None))]:
            self.assertIs(run_holds(CELLS, WORSE, BOTH, thing), False, thing)

    def test_transactions_that_are_not_kept_make_no_ring(self):
        run = WORSE[:-1]
        completion = (("firm", 1, ()), ("dropped", 2))
        self.assertIs(run_holds(CELLS, run, completion, ("ring", (1, 2))), False)


class Right(Case):
    def check(self, table, run, is_right_, are_right):
        self.assertIs(is_right_run(table, run), is_right_)
        self.assertIs(is_right_run(run=run, table=table), is_right_)
        self.assertIs(are_sites_right(table, run), are_right)
        self.assertIs(are_sites_right(run=run, table=table), are_right)

    def test_right(self):
        for run in ((), CROSS, SPLIT, SPLIT + ((2, FIRM), (0, FIRM)), CROSS + ((0, ("fall",)), (1, ("fall",)))):
            self.check(CELLS, run, True, True)
        self.check((("add", "get"), ()), ROUND, True, True)

    def test_not_right(self):
        self.check(CELLS, WORSE, False, False)
        self.check(CELLS, ROUND, False, False)
        self.check(CELLS, at(3, TWO + (("no", 1), ("back", 1, 0))), False, False)

    def test_right_though_a_site_is_not(self):
        # 1 can be dropped, but then 2 is, too: another site has voted "no", or wants 1.
        bare = at(0, TWO + (("yes", 2, ()),))
        self.check(CELLS, bare + ((1, ("no", 2)),), True, False)
        self.check(CELLS, bare + at(1, TWO + (("yes", 2, (1,)),)), True, False)
        self.check(CELLS, bare + ((0, ("yes", 1, ())), (2, ("hear", ("firm", 1, ())))), True, False)
        self.check(CELLS, bare, False, False)


class WrongInputs(Case):
    ALONE = (facts_of, completions, is_right_run, are_sites_right)

    def test_no_table(self):
        for thing in NO_TABLES:
            for function in self.ALONE:
                self.raises(BadTable, thing, lambda: function(thing, None))
                self.raises(BadTable, thing, lambda: function(run=(), table=thing))
            self.raises(BadTable, thing, lambda: is_run(thing, None))
            self.raises(BadTable, thing, lambda: is_run(thing=(), table=thing))
            self.raises(BadTable, thing, lambda: site_history(thing, None, None))
            self.raises(BadTable, thing, lambda: site_history(s=0, run=(), table=thing))
            self.raises(BadTable, thing, lambda: judge_run(thing, None, None))
            self.raises(BadTable, thing, lambda: judge_run(completion=(), run=(), table=thing))
            self.raises(BadTable, thing, lambda: run_holds(thing, None, None, None))
            self.raises(BadTable, thing, lambda: run_holds(thing=None, completion=(), run=(), table=thing))

    def test_no_run(self):
        for thing in [thing for thing in plain_things() if thing != ()] + [CROSS[::-1], LENT, SPLIT[:4] + ((0, FIRM),)]:
            for function in self.ALONE:
                self.raises(BadRun, thing, lambda: function(CELLS, thing))
                self.raises(BadRun, thing, lambda: function(run=thing, table=CELLS))
            self.raises(BadRun, thing, lambda: site_history(CELLS, thing, None))
            self.raises(BadRun, thing, lambda: site_history(s=0, run=thing, table=CELLS))
            self.raises(BadRun, thing, lambda: judge_run(CELLS, thing, None))
            self.raises(BadRun, thing, lambda: judge_run(completion=(), run=thing, table=EMPTY))
            self.raises(BadRun, thing, lambda: run_holds(CELLS, thing, None, None))
            self.raises(BadRun, thing, lambda: run_holds(thing=None, completion=(), run=thing, table=EMPTY))

    def test_no_site(self):
        for thing in [4, -1, 10 ** 39, True, False, None, "0", "", (), (0,), [0], {}]:
            self.raises(BadSite, thing, lambda: site_history(CELLS, CROSS, thing))
            self.raises(BadSite, thing, lambda: site_history(s=thing, run=(), table=EMPTY))


class Rings(Case):
    def test_a_ring_among_others(self):
        completion = tuple([("firm", t, ()) for t in range(5)])
        self.assertIn(completion, completions(CELLS, APART))
        thing = judge_run(CELLS, APART, completion)
        self.assertEqual((thing[0], sorted(thing[1])), ("ring", [2, 3, 4]))
        self.assertIs(runs.holds(CELLS, APART, completion, thing), True)
        for ring in permutations(range(5), 3):
            expected = ring in ((2, 3, 4), (3, 4, 2), (4, 2, 3))
            self.assertIs(run_holds(CELLS, APART, completion, ("ring", ring)), expected, ring)


if __name__ == "__main__":
    unittest.main()
