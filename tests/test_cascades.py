"""Cascades, scripts, greatest cascades and waits (part 11)."""

import unittest
from itertools import permutations
from random import Random

from tests import making_logs as making
from tests import reference
from tests import reference_logs as logs
from tests import reference_sites as sites
from tests import reference_stores as models
from tests.cases import Raising
from tests.test_logs import ADD, GET, LOG, NO_LOGS, NO_OPERATIONS, OTHER, SET, VOTED
from tests.things import altered, plain_things
from yesifs.cascades import cascade, greatest_cascade, is_script, log_of, waits
from yesifs.errors import BadInterleaving, BadLog, BadScript, BadTransaction
from yesifs.judge import full_conditions, supports
from yesifs.logs import history_of, is_log, table_of

SCRIPT = ((1, (ADD,)), (2, (GET, ("set", "y", 1))), (3, (("get", "y"),)))
FREE = ((1, (ADD, OTHER)), (2, (ADD,)), (4, (OTHER, OTHER)))
NO_SCRIPTS = [
    ((1, ()),), ((1, (ADD,)), (1, (GET,))), ((2, (ADD,)), (1, (GET,))), ((1, [ADD]),), ((1, ADD),), ([1, (ADD,)],),
    [(1, (ADD,))], (1, (ADD,)), ((1,),), ((1, (ADD,), ()),), ((True, (ADD,)),), ((-1, (ADD,)),), ((None, (ADD,)),),
    (("1", (ADD,)),), (([1], (ADD,)),), ((1, (ADD, None)),), ((1, (ADD,)), None), ((1, None),), {1: (ADD,)}, "1",
    *[((1, (thing,)),) for thing in NO_OPERATIONS]]


class Cascades(Raising):
    def check(self, log, t, *expected):
        self.assertEqual(cascade(log, t), expected)
        self.assertEqual(cascade(t=t, log=log), expected)
        self.assertEqual(models.cascade(log, t), expected)

    def test_what_is_drawn_along(self):
        self.check(LOG, 1, (1, 2), 2)
        self.check(LOG, 2, (2,), 1)
        self.check(LOG, 3, (3,), 1)
        chain = log_of(SCRIPT, (1, 2, 2, 3))
        self.check(chain, 1, (1, 2, 3), 4)
        self.check(chain, 2, (2, 3), 3)
        self.check(chain, 3, (3,), 1)

    def test_voted_ones(self):
        voted = LOG + (("yes", 2, (1,)),)
        self.check(voted, 1, (1, 2), 2)
        self.check(voted, 3, (3,), 1)
        # A voted one that is not conditioned on it stays.
        self.check((("do", 1, ADD, 0), ("do", 2, ADD, 5), ("yes", 2, ())), 1, (1,), 1)

    def test_kept_ones_are_no_part(self):
        kept = (("do", 1, SET, 0), ("yes", 1, ()), ("hear", ("firm", 1, ())), ("do", 2, GET, 7), ("do", 3, SET, 7))
        self.check(kept, 2, (2, 3), 2)
        self.check(kept, 3, (3,), 1)

    def test_facts_that_were_heard(self):
        # 3 is led to 1 by the fact of 4, which has no step here; it is no supporter of 3's.
        log = (("do", 1, ADD, 0), ("do", 3, OTHER, 0), ("yes", 3, ()), ("hear", ("firm", 3, (4,))), ("hear", ("firm", 4, (1,))))
        self.check(log, 1, (1, 3), 2)
        self.assertEqual(supports(table_of(log), history_of(log)), ())

    def test_logs_that_are_not_settled(self):
        # 2 is lost already, and not yet taken back: it is no part of the cascade, but a part of its cost.
        log = LOG + (("no", 2),)
        self.check(log, 1, (1,), 2)
        self.check(log, 3, (3,), 2)
        # 3 is drawn along by the lost 1 whoever is refused.
        drawn = (("do", 1, ADD, 0), ("do", 2, OTHER, 0), ("do", 3, GET, 5), ("yes", 1, ()), ("hear", ("dropped", 1)))
        self.check(drawn, 2, (2, 3), 3)

    def test_settled_logs(self):
        # [11.1]: what one comes to from t by going to those that are supported.
        random = Random(111)
        many = 0
        for n in range(300):
            words = ("do", "do", "do", "yes", "no", "back")
            log = making.random_log(random, random.randint(0, 12), 4, words=words)
            log += logs.refuse_rows(log, ())
            pairs = supports(table_of(log), history_of(log))
            for t in logs.active(log):
                found = sites.closure({t}, lambda u: [w for v, w in pairs if v == u])
                many += len(found) > 1
                self.assertEqual(cascade(log, t)[0], tuple(sorted(found)))
                backs = [i for i in logs.left(log) if log[i][1] in found]
                self.assertEqual(cascade(log, t)[1], len(backs))
        self.assertGreater(many, 50)

    def test_random_logs(self):
        random = Random(112)
        for n in range(200):
            log = making.random_log(random, random.randint(0, 12), 4)
            for t in range(6):
                if t in logs.active(log):
                    self.check(log, t, *models.cascade(log, t))
                else:
                    self.raises(BadTransaction, t, lambda: cascade(log, t))

    def test_wrong_inputs(self):
        for thing in NO_LOGS:
            self.raises(BadLog, thing, lambda: cascade(thing, None), lambda: cascade(t=1, log=thing))
        for t in (4, 0, -1, True, None, "1", (1,), [1], {}, 10 ** 39):
            self.raises(BadTransaction, t, lambda: cascade(LOG, t), lambda: cascade(t=t, log=LOG))
        for t in (1, 2):
            self.raises(BadTransaction, t, lambda: cascade(VOTED, t))


class Scripts(Raising):
    def test_scripts(self):
        for script in ((), SCRIPT, FREE, SCRIPT[1:], ((0, (GET,)),), ((10 ** 39, (SET,) * 7),)):
            self.assertIs(is_script(script), True)
            self.assertIs(is_script(thing=script), True)
            self.assertIs(models.is_script(script), True)

    def test_values_that_are_no_scripts(self):
        for thing in NO_SCRIPTS + [one for one in plain_things() if one != ()]:
            self.assertIs(is_script(thing), False, thing)
            self.assertIs(models.is_script(thing), False, thing)
            self.raises(BadScript, thing, lambda: log_of(thing, None), lambda: log_of(interleaving=(), script=thing),
                        lambda: waits(thing, None), lambda: waits(interleaving=None, script=thing),
                        lambda: greatest_cascade(thing, None), lambda: greatest_cascade(t=1, script=thing))
        for thing in altered(SCRIPT):
            self.assertIs(is_script(thing), models.is_script(thing), thing)


class Interleavings(Raising):
    def test_logs(self):
        self.assertEqual(log_of((), ()), ())
        self.assertEqual(log_of(SCRIPT, (3, 2, 1, 2)), (("do", 3, ("get", "y"), 0), ("do", 2, GET, 0), ("do", 1, ADD, 0),
                                                        ("do", 2, ("set", "y", 1), 0)))
        for script in (SCRIPT, FREE):
            for order in set(permutations(models.turns(script))):
                log = log_of(script, order)
                self.assertEqual(log_of(interleaving=order, script=script), log)
                self.assertEqual(log, models.log_of(script, order))
                self.assertIs(is_log(log), True)

    def test_bad_interleavings(self):
        things = [(), (1,), (1, 2, 2), (1, 2, 2, 3, 3), (1, 2, 3, 3), (1, 1, 2, 3), (1, 2, 2, 4), (1, 2, 2, -3), (1, 2, 2, "3"),
                  (1, 2, 2, None), (True, 2, 2, 3), [1, 2, 2, 3], "1223", None, 1, {}, (1, 2, 2, (3,)), (1, 2, 2, [3]),
                  ((1, 2, 2, 3),), (1, 2, 2, 3, True), *plain_things(), *altered((3, 1, 2, 2))]
        for thing in things:
            if models.is_interleaving(SCRIPT, thing):
                self.assertEqual(log_of(SCRIPT, thing), models.log_of(SCRIPT, thing))
            else:
                self.raises(BadInterleaving, thing, lambda: log_of(SCRIPT, thing), lambda: waits(SCRIPT, thing),
                            lambda: log_of(interleaving=thing, script=SCRIPT),
                            lambda: waits(interleaving=thing, script=SCRIPT))
        self.raises(BadInterleaving, (1,), lambda: log_of((), (1,)), lambda: waits((), (1,)))


class Greatest(Raising):
    def check(self, script, t, *expected):
        self.assertEqual(greatest_cascade(script, t), expected)
        self.assertEqual(greatest_cascade(t=t, script=script), expected)

    def test_the_first_with_the_greatest_cost(self):
        self.check(SCRIPT, 1, (1, 2, 3), 4, (1, 2, 2, 3))
        self.check(SCRIPT, 3, (1, 2, 3), 4, (2, 1, 3, 2))
        self.check(SCRIPT, 2, (1, 2, 3), 4, (2, 1, 2, 3))
        self.check(FREE, 2, (2,), 1, (1, 1, 2, 4, 4))
        self.check(FREE, 4, (4,), 2, (1, 1, 2, 4, 4))
        self.check(((5, (GET,)),), 5, (5,), 1, (5,))
        # The greatest cost counts, not the number of transactions.
        script = ((1, (ADD,)), (2, (("set", "x", 1), ("set", "z", 1), ("set", "z", 2))), (3, (("get", "y"),)))
        self.check(script, 1, (1, 2), 4, (1, 2, 2, 2, 3))

    def test_random_scripts(self):
        random = Random(113)
        for n in range(25):
            sizes = random.choice([(1,), (2, 2), (1, 2, 2), (1, 1, 1, 1), (1, 1, 1, 2)])
            script = tuple([(t, tuple([making.random_operation(random) for _ in range(size)]))
                            for t, size in zip(sorted(random.sample(range(9), len(sizes))), sizes)])
            for t, _ in script:
                self.check(script, t, *models.greatest_cascade(script, t))

    def test_bad_transactions(self):
        for t in (0, 4, -1, True, False, None, "1", (1,), [1], {}, 10 ** 39):
            self.raises(BadTransaction, t, lambda: greatest_cascade(SCRIPT, t),
                        lambda: greatest_cascade(t=t, script=SCRIPT))
        self.raises(BadTransaction, 1, lambda: greatest_cascade((), 1))


class Waits(Raising):
    def check(self, script, order, *expected):
        self.assertEqual(waits(script, order), expected)
        self.assertEqual(waits(interleaving=order, script=script), expected)
        self.assertEqual(models.waits(script, order), expected)

    def test_waits(self):
        self.check((), ())
        self.check(SCRIPT, (3, 1, 2, 2), (0, 3), (1, 2))
        self.check(SCRIPT, (1, 2, 2, 3), (0, 1), (2, 3))
        self.check(SCRIPT, (2, 3, 1, 2), (0, 2), (1, 3))
        self.check(FREE, (4, 2, 1, 4, 1))
        # The steps of one transaction do not wait for one another.
        self.check(((1, (SET, SET, GET)),), (1, 1, 1))
        self.check(((1, (SET, SET)), (2, (SET,))), (1, 2, 1), (0, 1), (1, 2))
        self.check(((1, (SET, SET)), (2, (SET,))), (1, 1, 2), (0, 2), (1, 2))

    def test_without_waits(self):
        # Then each cascade is the transaction alone, and no full condition is needed ([11.3]).
        random = Random(114)
        seen = {True: 0, False: 0}
        for n in range(120):
            sizes = random.choice([(1, 1), (1, 2), (2, 2), (1, 1, 2)])
            script = tuple([(t, tuple([making.random_operation(random, ("x", "y", "z")) for _ in range(size)]))
                            for t, size in enumerate(sizes)])
            order = random.sample(models.turns(script), len(models.turns(script)))
            self.check(script, tuple(order), *models.waits(script, tuple(order)))
            log = log_of(script, tuple(order))
            alone = all(cascade(log, t)[0] == (t,) for t, _ in script)
            free = all(full_conditions(table_of(log), history_of(log), t) == () for t, _ in script)
            is_without = waits(script, tuple(order)) == ()
            seen[is_without] += 1
            self.assertEqual([alone, free], [is_without, is_without])
        self.assertGreater(min(seen.values()), 20)

    def test_random_scripts(self):
        random = Random(115)
        for n in range(200):
            script = tuple([(t, tuple([making.random_operation(random) for _ in range(random.randint(1, 3))]))
                            for t in reference.subsets(range(4))[random.randrange(16)]])
            turns = models.turns(script)
            order = tuple(random.sample(turns, len(turns)))
            self.check(script, order, *models.waits(script, order))
            self.assertEqual(log_of(script, order), models.log_of(script, order))


if __name__ == "__main__":
    unittest.main()
