"""What is known and lost, words and outcomes ([4.2] to [4.4])."""

import unittest
from random import Random

from tests import making
from tests import reference_sites as sites
from tests.test_facts import NO_TRANSACTIONS
from tests.test_histories import CELLS, EMPTY, LENT, TWO
from tests.things import plain_things
from yesifs.errors import BadHistory, BadOutcome, BadTable, BadTransaction
from yesifs.moments import moment_after
from yesifs.sites import known_kept, lost, outcomes, settled, state_of, word_of
from yesifs.words import reduced

THREE = TWO + (("do", 3, "add"),)
NO_HISTORIES = [thing for thing in plain_things() if thing != ()] + [LENT[::-1], TWO[0], list(TWO)]
NO_TABLES = [thing for thing in plain_things() if thing != EMPTY] + [CELLS[::-1]]


class States(unittest.TestCase):
    def check(self, history, **words):
        for t in range(10):
            expected = words.get(f"t{t}", "new")
            self.assertEqual(state_of(CELLS, history, t), expected, (history, t))
            self.assertEqual(state_of(t=t, history=history, table=CELLS), expected)

    def test_new_active_and_voted(self):
        self.check(())
        self.check(TWO, t1="active", t2="active")
        self.check(LENT, t1="voted", t2="voted")
        self.check(TWO + (("yes", 2, (1,)),), t1="active", t2="voted")

    def test_kept(self):
        self.check(LENT + (("hear", ("firm", 1, ())),), t1="kept", t2="voted")
        self.check(LENT + (("hear", ("firm", 2, (1,))),), t1="voted", t2="voted")
        self.check(LENT + (("hear", ("firm", 2, (1,))), ("hear", ("firm", 1, ()))), t1="kept", t2="kept")
        self.check(LENT + (("hear", ("firm", 1, (3,))),), t1="voted", t2="voted")
        self.check(LENT + (("hear", ("firm", 1, (3,))), ("hear", ("firm", 3, ()))), t1="kept", t2="voted", t3="kept")

    def test_lost(self):
        self.check(TWO + (("no", 1),), t1="lost", t2="active")
        self.check(TWO + (("yes", 2, (1,)), ("no", 1)), t1="lost", t2="lost")
        self.check(LENT + (("hear", ("dropped", 1)),), t1="lost", t2="lost")
        self.check(LENT + (("hear", ("dropped", 2)),), t1="voted", t2="lost")
        self.check(TWO + (("yes", 1, (2,)), ("yes", 2, (1,))), t1="lost", t2="lost")

    def test_falls(self):
        self.check(TWO + (("fall",),), t1="lost", t2="lost")
        self.check(TWO + (("yes", 1, ()), ("fall",)), t1="voted", t2="lost")
        self.check(TWO + (("yes", 2, (1,)), ("fall",)), t1="lost", t2="lost")
        self.check(LENT + (("fall",), ("fall",)), t1="voted", t2="voted")
        self.check(LENT + (("fall",), ("do", 3, "add"), ("fall",), ("do", 4, "add")), t1="voted", t2="voted",
                   t3="lost", t4="active")
        # Of 1 a fact was heard before the fall: it does not fall, but it is lost.
        self.check(TWO + (("hear", ("dropped", 1)), ("fall",)), t1="lost", t2="lost")

    def test_without_a_step(self):
        self.check((("no", 3),), t3="lost")
        self.check((("hear", ("dropped", 3)),), t3="lost")
        self.check((("hear", ("firm", 3, ())),), t3="kept")
        self.check((("hear", ("firm", 3, (4,))),))
        self.check((("hear", ("firm", 3, (4,))), ("no", 4)), t3="lost", t4="lost")
        self.check((("hear", ("firm", 3, (4,))), ("hear", ("firm", 4, (3,)))), t3="lost", t4="lost")
        self.check((("hear", ("firm", 3, (4,))), ("hear", ("firm", 4, ()))), t3="kept", t4="kept")


class KnownAndLost(unittest.TestCase):
    def check(self, history, kept, gone):
        self.assertEqual((known_kept(CELLS, history), lost(CELLS, history)), (kept, gone))
        self.assertEqual((known_kept(history=history, table=CELLS), lost(history=history, table=CELLS)), (kept, gone))

    def test_with_a_step_or_a_vote(self):
        self.check((), (), ())
        self.check(TWO, (), ())
        self.check(LENT + (("hear", ("firm", 1, ())), ("hear", ("firm", 2, (1,)))), (1, 2), ())
        self.check(LENT + (("hear", ("dropped", 1)),), (), (1, 2))
        self.check((("no", 5), ("no", 3)), (), (3, 5))
        self.check(TWO + (("fall",), ("no", 0)), (), (0, 1, 2))

    def test_without_a_step_and_a_vote(self):
        self.check((("hear", ("firm", 3, ())),), (), ())
        self.check((("hear", ("dropped", 3)),), (), ())
        self.check(LENT + (("hear", ("firm", 1, (3,))), ("hear", ("firm", 3, ()))), (1,), ())
        self.check(LENT + (("hear", ("firm", 1, (3,))), ("hear", ("dropped", 3))), (), (1, 2))
        self.check((("hear", ("firm", 3, (4,))), ("no", 4)), (), (4,))


class Words(unittest.TestCase):
    def check(self, history, *letters):
        self.assertEqual(word_of(CELLS, history), letters)
        self.assertEqual(word_of(history=history, table=CELLS), letters)

    def test_steps_and_compensations(self):
        self.check(())
        self.check((("no", 1), ("fall",), ("hear", ("dropped", 2))))
        self.check((("no", 4),) + TWO + (("yes", 2, ()),), (1, 1), (2, 1))
        self.check(TWO + (("do", 1, "get"), ("no", 1), ("back", 1, 2), ("back", 1, 0)),
                   (0, 1), (1, 1), (2, 1), (2, -1), (0, -1))

    def test_what_a_fall_takes_back(self):
        self.check(THREE + (("fall",),), (0, 1), (1, 1), (2, 1), (2, -1), (1, -1), (0, -1))
        self.check(THREE + (("yes", 2, ()), ("fall",)), (0, 1), (1, 1), (2, 1), (2, -1), (0, -1))
        self.check(THREE + (("yes", 2, (3,)), ("fall",)), (0, 1), (1, 1), (2, 1), (2, -1), (1, -1), (0, -1))
        # Lost before the fall, and partly taken back already.
        self.check(TWO + (("do", 1, "get"), ("no", 1), ("back", 1, 2), ("yes", 2, ()), ("fall",)),
                   (0, 1), (1, 1), (2, 1), (2, -1), (0, -1))
        self.check(LENT + (("hear", ("dropped", 1)), ("fall",), ("fall",)), (0, 1), (1, 1), (1, -1), (0, -1))

    def test_falls_one_after_another(self):
        self.check(TWO + (("yes", 1, ()), ("fall",), ("do", 3, "add"), ("fall",)),
                   (0, 1), (1, 1), (1, -1), (4, 1), (4, -1))


class Outcomes(unittest.TestCase):
    def check(self, history, *expected):
        self.assertEqual(outcomes(CELLS, history), expected)
        self.assertEqual(outcomes(history=history, table=CELLS), expected)

    def test_voted(self):
        self.check((), ())
        self.check(LENT, (), (1,), (1, 2))
        self.check(TWO + (("yes", 1, ()), ("yes", 2, ())), (), (1,), (1, 2), (2,))
        self.check(TWO + (("yes", 1, (2,)), ("yes", 2, (1,))), ())

    def test_active(self):
        self.check(TWO[:1], (), (1,))
        self.check(TWO, (), (1,), (1, 2))
        self.check((("do", 1, "add"), ("do", 2, "add")), (), (1,), (1, 2), (2,))
        self.check(TWO + (("do", 1, "get"),), (), (1,), (1, 2))
        self.check(TWO + (("do", 1, "add"),), ())

    def test_active_on_a_known_kept_transaction(self):
        self.check(LENT[:1] + (("yes", 1, ()), ("hear", ("firm", 1, ())), ("do", 2, "get")), (1,), (1, 2))

    def test_lost(self):
        self.check(TWO + (("no", 1),), ())
        self.check(TWO + (("no", 1), ("back", 1, 0)), (), (2,))
        self.check(LENT + (("hear", ("dropped", 1)),), ())
        self.check(LENT + (("hear", ("dropped", 2)),), (), (1,))
        self.check(TWO + (("fall",),), ())
        self.check((("no", 1),), ())

    def test_unknown(self):
        # The fact of 1 has a condition without a step here; 3 can be kept or dropped.
        history = LENT + (("hear", ("firm", 1, (3,))),)
        self.check(history, (), (1,), (1, 2))
        self.check(history + (("no", 3),), ())
        self.check(history + (("hear", ("firm", 3, ())),), (1,), (1, 2))
        self.check(history + (("hear", ("firm", 3, (4,))),), (), (1,), (1, 2))
        self.check(history + (("hear", ("firm", 3, (4,))), ("hear", ("dropped", 4))), ())
        self.check((("hear", ("firm", 3, (4,))),), ())
        # Whether 1 is kept depends on 3, and 3 is as free as 2.
        self.check(TWO + (("yes", 1, ()), ("yes", 2, ()), ("hear", ("firm", 1, (3,))), ("hear", ("firm", 2, (3,)))),
                   (), (1, 2))

    def test_kept(self):
        self.check(LENT + (("hear", ("firm", 1, ())),), (1,), (1, 2))
        self.check(LENT + (("hear", ("firm", 2, (1,))),), (), (1, 2))


class Settled(unittest.TestCase):
    def check(self, history, outcome, *tail):
        expected = word_of(CELLS, history) + tail
        self.assertEqual(settled(CELLS, history, outcome), expected)
        self.assertEqual(settled(outcome=outcome, history=history, table=CELLS), expected)

    def test_what_is_not_kept_is_taken_back(self):
        self.check((), ())
        self.check(LENT, (1, 2))
        self.check(LENT, (1,), (1, -1))
        self.check(LENT, (), (1, -1), (0, -1))
        self.check(TWO + (("do", 1, "get"), ("no", 1), ("back", 1, 2)), (), (1, -1), (0, -1))
        self.check(THREE + (("yes", 2, ()), ("fall",)), (2,))
        self.check(THREE + (("yes", 2, ()), ("fall",)), (), (1, -1))

    def test_no_outcome(self):
        for outcome in [(2,), (1, 2, 3), (3,), (2, 1), (1, 1), [1], [], [1, 2], (True,), (True, 2), (1, True), None, 1,
                        "", {}, (None,), ((1,),), ([],), (-1,), (1, 2, 2), (1, 1, 2), ("1",), ("1", "2"), (1, 2, None),
                        *[thing for thing in plain_things() if thing not in ((), (1,), (1, 2))]]:
            for call in (lambda: settled(CELLS, LENT, outcome),
                         lambda: settled(outcome=outcome, table=CELLS, history=LENT)):
                with self.assertRaises(BadOutcome) as caught:
                    call()
                self.assertIs(caught.exception.thing, outcome)
        for history, outcome in [((), (1,)), (TWO + (("no", 1),), (2,)), (LENT + (("hear", ("firm", 1, ())),), ())]:
            with self.assertRaises(BadOutcome):
                settled(CELLS, history, outcome)


class Compared(unittest.TestCase):
    def test_random_histories(self):
        random = Random(21)
        for n in range(600):
            table = making.random_table(random)
            make = random.choice([making.random_history, making.voted_history])
            history = make(random, table, random.randint(0, 10), random.randint(1, 4))
            kept, gone = sites.known_kept(history), sites.lost(history)
            here = sites.performers(history) | sites.voted(history)
            self.assertEqual(known_kept(table, history), tuple(sorted(kept & here)))
            self.assertEqual(lost(table, history), tuple(sorted(gone & here)))
            self.assertEqual(word_of(table, history), sites.word(history))
            self.assertEqual(outcomes(table, history), sites.outcomes(table, history), (table, history))
            for outcome in sites.outcomes(table, history):
                self.assertEqual(settled(table, history, outcome), sites.settled(history, outcome))
            for t in range(6):
                word = ("kept" if t in kept else "lost" if t in gone else "voted" if t in sites.yes_votes(history)
                        else "active" if t in sites.performers(history) else "new")
                self.assertEqual(state_of(table, history, t), word, (table, history, t))

    def test_same_words(self):
        random = Random(22)
        for n in range(250):
            table = making.random_table(random)
            steps = tuple([("do", random.randint(1, 3), random.choice(table[0])) for _ in range(4)])
            words = []
            for _ in range(2):
                letters = [(i, 1) for i in range(4) if random.random() < 0.7]
                letters += [(i, -1) for i, _ in letters if random.random() < 0.6]
                random.shuffle(letters)
                words.append(tuple(letters))
            expected = sites.are_same_words(table, steps, *words)
            self.assertIs(sites.are_same(table, steps, *words), expected, (table, steps, words))
            moment = moment_after(table, steps)
            left = tuple(reduced(moment, words[0]))
            self.assertTrue(sites.are_same_words(table, steps, words[0], left))
            self.assertEqual(sites.shortened(table, steps, left), left)


class WrongInputs(unittest.TestCase):
    def raises(self, error, thing, call):
        with self.assertRaises(error) as caught:
            call()
        self.assertIs(caught.exception.thing, thing)

    def test_no_table(self):
        for thing in NO_TABLES:
            for function in (known_kept, lost, word_of, outcomes):
                self.raises(BadTable, thing, lambda: function(thing, ()))
                self.raises(BadTable, thing, lambda: function(history=None, table=thing))
            for function in (state_of, settled):
                self.raises(BadTable, thing, lambda: function(thing, None, None))
            self.raises(BadTable, thing, lambda: state_of(t=1, history=(), table=thing))
            self.raises(BadTable, thing, lambda: settled(outcome=(), history=(), table=thing))

    def test_no_history(self):
        for thing in NO_HISTORIES:
            for function in (known_kept, lost, word_of, outcomes):
                self.raises(BadHistory, thing, lambda: function(CELLS, thing))
                self.raises(BadHistory, thing, lambda: function(history=thing, table=CELLS))
            for function in (state_of, settled):
                self.raises(BadHistory, thing, lambda: function(CELLS, thing, None))
            self.raises(BadHistory, thing, lambda: state_of(t=1, history=thing, table=CELLS))
            self.raises(BadHistory, thing, lambda: settled(outcome=(), history=thing, table=CELLS))

    def test_no_transaction(self):
        for thing in NO_TRANSACTIONS:
            self.raises(BadTransaction, thing, lambda: state_of(CELLS, TWO, thing))
            self.raises(BadTransaction, thing, lambda: state_of(t=thing, history=(), table=EMPTY))


if __name__ == "__main__":
    unittest.main()
