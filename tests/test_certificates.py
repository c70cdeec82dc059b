import unittest
from itertools import product
from random import Random

from tests import reference
from tests.things import SOME, altered, plain_things
from yesifs.facts import fate, fate_holds, judge_fate
from tests.test_facts import BACKWARDS, FULL

KINDS = {"kept", "dropped", "open"}


def some_facts(random, many, most):
    """Facts of some of so many transactions, with at most so many conditions each."""
    found = []
    for t in range(many):
        others = [u for u in range(many + 3) if u != t]
        conditions = tuple(sorted(random.sample(others, random.randint(0, most))))
        found.append(random.choice([(), (("dropped", t),), (("firm", t, conditions),), (("firm", t, conditions),)]))
    return sum(found, ())


class Right(unittest.TestCase):
    def check(self, facts, t, thing):
        self.assertIs(fate_holds(facts, t, thing), True, (facts, t, thing))
        self.assertIs(fate_holds(thing=thing, t=t, facts=facts), True)

    def test_kept(self):
        facts = (("firm", 1, ()), ("firm", 2, (1,)), ("firm", 3, ()), ("firm", 4, (2, 3)))
        for order in [(1, 3, 2, 4), (3, 1, 2, 4), (1, 2, 3, 4)]:
            self.check(facts, 4, ("kept", order))
        self.check(facts, 1, ("kept", (1,)))
        self.check(facts, 1, ("kept", (3, 1)))

    def test_dropped(self):
        facts = (("firm", 1, (2, 3, 9)), ("firm", 2, (1,)), ("dropped", 3), ("firm", 4, (1,)))
        for chain in [(1, 3), (1, 2, 1), (1, 2, 1, 3), (1, 2, 1, 2), (1, 2, 1, 2, 1)]:
            self.check(facts, 1, ("dropped", chain))
        self.check(facts, 3, ("dropped", (3,)))
        self.check(facts, 4, ("dropped", (4, 1, 3)))
        self.check(facts, 4, ("dropped", (4, 1, 2, 1)))

    def test_open(self):
        facts = (("firm", 1, (2, 3)), ("firm", 4, ()))
        both = (("firm", 2, ()), ("firm", 3, ()))
        for other in [(("dropped", 2),), (("dropped", 3),), (("dropped", 2), ("dropped", 3)),
                      (("dropped", 2), ("firm", 3, ())), (("firm", 2, (1,)),), (("firm", 2, (3,)), ("firm", 3, (2,))),
                      (("firm", 3, (8,)), ("firm", 8, (1,))), (("dropped", 0), ("dropped", 3))]:
            self.check(facts, 1, ("open", both, other))
        for one in [(("firm", 2, (4,)), ("firm", 3, (2, 4))), (("firm", 2, (3, 5)), ("firm", 3, ()), ("firm", 5, ())),
                    (("dropped", 0), *both, ("firm", 6, (7,)), ("firm", 7, (6,)))]:
            self.check(facts, 1, ("open", one, (("dropped", 2),)))
        self.check(facts, 9, ("open", (("firm", 9, ()),), (("dropped", 9),)))
        self.check((), 0, ("open", (("firm", 0, (1,)), ("firm", 1, ())), (("firm", 0, (1,)), ("dropped", 1))))


class Wrong(unittest.TestCase):
    def check(self, facts, t, thing):
        self.assertIs(fate_holds(facts, t, thing), False, (facts, t, thing))
        self.assertIs(fate_holds(thing=thing, t=t, facts=facts), False)

    def test_kept(self):
        facts = (("firm", 1, ()), ("firm", 2, (1,)), ("dropped", 3), ("firm", 4, (3,)), ("firm", 5, (6,)),
                 ("firm", 6, (5,)), ("firm", 7, (9,)))
        for order in [(), (2,), (2, 1), (1,), (1, 1, 2), (1, 2, 2), (1, 2, 1), (3, 1, 2), (0, 1, 2), (9, 1, 2), (1, -2),
                      [1, 2], None, 2, {}, "12", (True, 2), (1, None, 2), (1, [], 2), (1, {}, 2), ((1,), 2), ("1", 2)]:
            self.check(facts, 2, ("kept", order))
        for t, order in [(3, (3,)), (4, (3, 4)), (4, (4,)), (5, (6, 5)), (5, (5, 6, 5)), (7, (9, 7)), (7, (7,)),
                         (9, (9,)), (9, ()), (1, (True,)), (1, (1, True))]:
            self.check(facts, t, ("kept", order))

    def test_dropped(self):
        facts = (("firm", 1, (2, 3, 9)), ("firm", 2, (1,)), ("dropped", 3), ("firm", 4, (5,)), ("firm", 5, ()),
                 ("firm", 6, (7,)))
        for chain in [(), (3,), (2, 1, 3), (1,), (1, 2), (1, 9), (1, 2, 3), (1, 3, 1), (1, 3, 3), (1, 1), (1, 2, 9),
                      [1, 3], None, 1, {}, (True, 3), (1, 2, True), (1, None), (1, [3]), (1, {}), ((1,), 3), ("1", 3)]:
            self.check(facts, 1, ("dropped", chain))
        for t, chain in [(3, (3, 3)), (3, (True,)), (3, (1, 3)), (4, (4, 5)), (4, (4,)), (5, (5,)), (5, (5, 5)),
                         (6, (6, 7)), (6, (6, 7, 6)), (7, (7,)), (7, (7, 7)), (7, ())]:
            self.check(facts, t, ("dropped", chain))

    def test_open(self):
        facts = (("firm", 1, (2, 3)), ("firm", 4, ()), ("dropped", 5), ("firm", 6, (7,)), ("firm", 7, (6,)))
        good = (("firm", 2, ()), ("firm", 3, ()))
        bad = (("dropped", 2),)
        for one, other in [(bad, good), (good, good), (bad, bad), ((), bad), (good, ()), ((), ()), (good[:1], bad),
                           (good[::-1], bad), (good, (("dropped", 3), ("dropped", 2))), (list(good), bad),
                           (good, list(bad)), (good + (("firm", 4, ()),), bad), (good, bad + (("dropped", 5),)),
                           ((("firm", 1, ()),), bad), (good, (("dropped", 1),)), (good, (("dropped", True),)),
                           (good, bad * 2), (good, (("firm", 2, ()),)), (good, (("dropped", 8),)), (None, bad),
                           (good, None), (good, {}), (good, "dropped"), (good, 2), ((("firm", 2, (2,)),), bad),
                           (good, (("firm", 3, (2,)),)), ((("firm", 2, (3,)), ("firm", 3, (2,))), bad)]:
            self.check(facts, 1, ("open", one, other))
        for t in (4, 5, 6, 7, 8):
            self.check(facts, t, ("open", good, bad))
        for t in (4, 5, 6):
            self.check(facts, t, ("open", (("firm", 8, ()),), (("dropped", 8),)))
            self.check(facts, t, ("open", (), ()))

    def test_other_lengths_and_words(self):
        for thing in [("kept",), ("kept", (1,), ()), ("kept", (1,), (1,)), ["kept", (1,)], ("kep", (1,)), ("Kept", (1,)),
                      ("open", (1,)), ("dropped", (1,)), ((1,), "kept"), ("kept", 1), (), (("kept", (1,)),)]:
            self.check(SOME, 1, thing)
        for thing in [("dropped",), ("dropped", (4,), ()), ["dropped", (4,)], ("drop", (4,)), ("kept", (4,)),
                      (None, (4,)), (True, (4,)), ("open", (4,)), ("dropped", (4,), (4,))]:
            self.check(SOME, 4, thing)
        one, other = (("firm", 7, ()),), (("dropped", 7),)
        for thing in [("open", one), ("open", one, other, ()), ["open", one, other], ("kept", one, other),
                      ("dropped", one, other), (one, other), ("open", (one, other)), ("open",), "open"]:
            self.check(SOME, 3, thing)

    def test_any_values(self):
        for thing in plain_things():
            for t in (0, 1, 3, 8):
                self.check(SOME, t, thing)
                self.check((), t, thing)


class All(unittest.TestCase):
    def test_all_tuples_for_all_facts_of_two_transactions(self):
        tuples = [part for size in range(5) for part in product((0, 1, 2), repeat=size)]
        for facts in reference.all_facts((0, 1), (0, 1, 2)):
            for t in range(3):
                for part in tuples:
                    for word in ("kept", "dropped"):
                        self.assertIs(fate_holds(facts, t, (word, part)), reference.holds(facts, t, (word, part)),
                                      (facts, t, word, part))

    def test_all_additions_for_some_facts(self):
        for facts in reference.all_facts((1,), (1, 2)) + [(("firm", 0, (2,)), ("firm", 1, (0, 2)))]:
            additions = reference.all_facts((1, 2), (0, 1, 2))
            for t in range(3):
                for one, other in product(additions, repeat=2):
                    thing = ("open", one, other)
                    self.assertIs(fate_holds(facts, t, thing), reference.holds(facts, t, thing), (facts, t, thing))

    def test_altered_certificates(self):
        for t in range(10):
            for thing in altered(judge_fate(SOME, t)):
                self.assertIs(fate_holds(SOME, t, thing), reference.holds(SOME, t, thing), (t, thing))


class Judged(unittest.TestCase):
    def check(self, facts, t):
        thing = judge_fate(facts, t)
        self.assertEqual(thing, judge_fate(t=t, facts=facts))
        self.assertEqual(thing[0], fate(facts, t))
        self.assertEqual(len(thing), 3 if thing[0] == "open" else 2)
        self.assertIs(reference.holds(facts, t, thing), True, (facts, t, thing))
        self.assertIs(fate_holds(facts, t, thing), True, (facts, t, thing))
        for word in KINDS - {thing[0]}:
            self.assertIs(fate_holds(facts, t, (word, *thing[1:])), False)

    def test_all_facts_of_three_transactions(self):
        for facts in reference.all_facts((0, 1, 2), (0, 1, 2, 3)):
            for t in range(5):
                self.check(facts, t)

    def test_some_larger_facts(self):
        random = Random(7)
        for many, most in [(5, 2), (6, 1), (6, 2), (6, 3)] * 10:
            facts = some_facts(random, many, most)
            for t in range(many + 4):
                self.assertEqual(fate(facts, t), reference.fate(facts, t), (facts, t))
                self.check(facts, t)

    def test_forty_facts_with_twelve_conditions(self):
        for facts in (FULL, BACKWARDS, (("dropped", 0),) + FULL[1:], FULL[:11] + FULL[12:]):
            for t in (0, 5, 11, 12, 39, 40, 51, 52):
                thing = judge_fate(facts, t)
                self.assertIs(fate_holds(facts, t, thing), True)
                self.assertEqual(thing[0], fate(facts, t))

    def test_a_long_chain_into_a_ring(self):
        facts = tuple([("firm", t, (t + 1,)) for t in range(38)]) + (("firm", 38, (37, 39)), ("firm", 39, ()))
        for t in range(40):
            self.check_long(facts, t, "kept" if t == 39 else "dropped")
        facts = tuple([("firm", t, (t + 1,)) for t in range(40)])
        for t in range(41):
            self.check_long(facts, t, "open")

    def check_long(self, facts, t, word):
        self.assertEqual(judge_fate(facts, t)[0], word)
        self.assertIs(fate_holds(facts, t, judge_fate(facts, t)), True)


if __name__ == "__main__":
    unittest.main()
