"""Parts 5 and 6 compared with the document's definitions on small histories and runs, all or random ones."""

import unittest
from itertools import permutations
from random import Random

from tests import making, reference
from tests import reference_runs as runs
from tests import reference_sites as sites
from tests.test_judge import ONE
from yesifs import judge
from yesifs.runs import are_sites_right, completions, facts_of, is_right_run, is_run, judge_run, run_holds


def all_histories(table, many, size):
    """All histories of this size but those that begin with a fall or have two falls in a row."""
    found = [()]
    for _ in range(size):
        longer = [events + (event,) for events in found for event in making.all_events(table[0], many, len(events))
                  if sites.is_event(table, events, event)]
        found = [events for events in longer if events[-2:] not in ((("fall",),), (("fall",), ("fall",)))]
    return found


class Histories(unittest.TestCase):
    def check(self, table, history):
        right = sites.certificates(table, history)
        self.assertIs(judge.is_right_now(table, history), sites.is_right_now(table, history), (table, history))
        self.assertIs(judge.is_right(table, history), right == [("right",)], (table, history))
        self.assertIn(judge.judge_history(table, history), right, (table, history))
        self.assertEqual(judge.supports(table, history), sites.supports(table, history))

    def check_moments(self, table, history):
        """The judge is right by the words of [5.1] themselves."""
        self.assertIs(judge.is_right(table, history), sites.is_right(table, history), (table, history))
        certificate = judge.judge_history(table, history)
        if certificate != ("right",):
            self.assertTrue(sites.is_right(table, history[:certificate[1]]), (table, history))
            self.assertFalse(sites.is_right(table, history[:certificate[1] + 1]), (table, history))

    def check_certificates(self, table, history, many):
        right = sites.certificates(table, history)
        numbers = range(max(many, len(history)) + 1)
        faults = [(word, i, j) for word in ("vote", "back") for i in numbers for j in numbers]
        for thing in [("right",)] + [("wrong", p, fault) for p in range(len(history) + 1) for fault in faults]:
            self.assertIs(judge.history_holds(table, history, thing), thing in right, (table, history, thing))

    def check_active(self, table, history, many):
        for u in sorted(sites.active(history)):
            self.assertEqual(judge.full_conditions(table, history, u), sites.full(table, history, u))
            least = judge.least_conditions(table, history, u)
            self.assertEqual(len(least), sites.least(table, history, u), (table, history, u))
            self.assertTrue(sites.is_sufficient(table, history, u, least), (table, history, u))
            for conditions in reference.subsets(range(1, many + 2)):
                self.assertIs(judge.is_sufficient(table, history, u, conditions),
                              sites.is_sufficient(table, history, u, conditions), (table, history, u, conditions))

    def test_all_short_histories(self):
        for history in all_histories(ONE, 2, 5):
            self.check(ONE, history)
            self.check_moments(ONE, history)
            self.check_active(ONE, history, 2)

    def test_short_histories_after_two_steps(self):
        for start in [(1, 2, 1), (1, 2, 2), (1, 2)]:
            steps = tuple([("do", t, "a") for t in start])
            for event in making.all_events(("a",), 2, 3):
                for other in making.all_events(("a",), 2, 3):
                    for third in making.all_events(("a",), 2, 3):
                        history = steps + (event, other, third)
                        if sites.is_history(ONE, history):
                            self.check(ONE, history)
                            self.check_moments(ONE, history)

    def test_random_histories(self):
        random = Random(31)
        for n in range(1500):
            table, many, size = making.random_table(random), random.randint(2, 4), random.randint(2, 10)
            make = random.choice([making.random_history, making.voted_history, making.voted_history])
            history = make(random, table, size, many)
            self.check(table, history)
            self.check_active(table, history, many)
            if n % 2 == 0:
                self.check_moments(table, history)
            if n % 10 == 0:
                self.check_certificates(table, history, many)

    def test_sound_histories_are_right(self):
        random = Random(32)
        for n in range(200):
            table, many = making.random_table(random), random.randint(2, 4)
            history = making.random_history(random, table, 9, many, choose=making.sound_event)
            self.assertIs(judge.is_right(table, history), True)
            self.check_moments(table, history)

    def test_same_words_by_exchanges(self):
        random = Random(33)
        for n in range(200):
            table = making.random_table(random)
            history = making.voted_history(random, table, random.randint(2, 7), 3)
            expected = all(any(sites.are_same_words(table, history, sites.settled(history, outcome),
                                                    sites.serial(history, order))
                               for order in permutations(outcome) if sites.is_allowed(table, history, order))
                           for outcome in sites.outcomes(table, history))
            self.assertIs(judge.is_right_now(table, history), expected, (table, history))


class Runs(unittest.TestCase):
    def check(self, table, run, many):
        self.assertIs(is_run(table, run), True, (table, run))
        self.assertEqual(facts_of(table, run), runs.facts(run))
        self.assertEqual(completions(table, run), runs.completions(run))
        self.assertIs(is_right_run(table, run), runs.is_right_run(table, run), (table, run))
        self.assertIs(are_sites_right(table, run), runs.are_sites_right(table, run), (table, run))
        if are_sites_right(table, run):
            self.assertIs(is_right_run(table, run), True, (table, run))
        for completion in completions(table, run):
            thing = judge_run(table, run, completion)
            self.assertTrue(runs.holds(table, run, completion, thing), (table, run, completion, thing))

    def check_certificates(self, table, run, many):
        orders = [order for size in range(many + 1) for order in permutations(range(many + 1), size)]
        for completion in completions(table, run):
            words = set()
            for thing in [("site", s) for s in range(-1, 5)] + [(word, order) for word in ("serial", "ring")
                                                                for order in orders]:
                expected = runs.holds(table, run, completion, thing)
                self.assertIs(run_holds(table, run, completion, thing), expected, (table, run, completion, thing))
                if expected:
                    words.add(thing[0])
            self.assertTrue(words == {"serial"} or words and "serial" not in words)
            self.assertIn(judge_run(table, run, completion)[0], words)

    def test_random_runs(self):
        random = Random(34)
        for n in range(400):
            table, many, over = making.random_table(random), random.randint(2, 3), random.randint(1, 4)
            choose = random.choice([making.random_event, making.random_event, making.sound_event])
            run = making.random_run(random, table, random.randint(2, 14), many, over, choose, (8, 6, 0.3, 5, 0.3, 0.3))
            self.check(table, run, many)
            if n % 4 == 0:
                self.check_certificates(table, run, many)

    def test_what_is_a_run(self):
        random = Random(35)
        for n in range(250):
            table, over = making.random_table(random), random.randint(1, 3)
            run = making.random_run(random, table, random.randint(2, 12), 3, over)
            events = making.all_events(table[0], 3, 3)
            longer = [run + ((random.randrange(over), event),) for event in random.sample(events, min(len(events), 25))]
            moved = []
            for _ in range(10):
                at, to = random.randrange(len(run)), random.randrange(len(run))
                left = run[:at] + run[at + 1:]
                moved += [left, left[:to] + run[at:at + 1] + left[to:],
                          run[:at] + ((random.randrange(over), run[at][1]),) + run[at + 1:]]
            for thing in longer + moved:
                self.assertIs(is_run(table, thing), runs.is_run(table, thing), (table, thing))


if __name__ == "__main__":
    unittest.main()
