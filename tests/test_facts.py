import unittest

from tests import reference
from tests.things import SOME, altered, plain_things
from yesifs.errors import BadFacts, BadTransaction
from yesifs.facts import (are_facts, dropped_by, fate, fate_holds, is_fact, judge_fate, kept_by, needed,
                          open_by)

NO_FACTS_ALONE = [
    ("firm", 1, (1,)), ("firm", 1, (0, 1)), ("firm", 1, (3, 2)), ("firm", 1, (2, 2)), ("firm", 1, [2]),
    ["firm", 1, ()], ["dropped", 1], ("firm", 1), ("firm", 1, (), ()), ("dropped", 1, ()), ("dropped",), ("firm",),
    ("firm", True, ()), ("firm", False, ()), ("dropped", True), ("dropped", False), ("firm", 2, (True,)),
    ("firm", 2, (False, 1)), ("firm", 3, (0, True)), ("firm", -1, ()), ("dropped", -1), ("firm", 1, (-1,)),
    ("firm", 1, (-1, 0)), ("firm", "1", ()), ("dropped", "1"), ("firm", 1, ("2",)), ("firm", None, ()),
    ("firm", 1, None), ("firm", 1, 2), ("firm", 1, "2"), ("firm", 1, {2: True}), ("kept", 1), ("open", 1),
    ("Firm", 1, ()), ("firm ", 1, ()), ("droppe", 1), (1, "dropped"), ((), 1, "firm"), (), None, "firm", 1,
    ("firm", (1,), ()), ("firm", 1, ((2,),)), ("firm", 1, ((),)), ("firm", [1], ()), ("dropped", [1]),
]
NO_FACTS_TOGETHER = [
    (("firm", 2, ()), ("firm", 1, ())), (("dropped", 2), ("dropped", 1)), (("dropped", 1), ("dropped", 1)),
    (("firm", 1, ()), ("firm", 1, ())), (("firm", 1, ()), ("dropped", 1)), (("dropped", 1), ("firm", 1, ())),
    (("firm", 1, ()), ("dropped", 3), ("firm", 2, ())), [("firm", 1, ())], [], (("firm", 1, ()), None),
    ("firm", 1, ()), ("dropped", 1), {}, None, "", 0, True, ((),), ([],),
]
NO_FACTS = NO_FACTS_TOGETHER + [(thing,) for thing in NO_FACTS_ALONE] + [
    (("dropped", 0), thing) for thing in NO_FACTS_ALONE]
NO_TRANSACTIONS = [-1, -(10 ** 30), True, False, None, "", "1", (), (1,), [], [1], {}]
FULL = tuple([("firm", t, ()) for t in range(12)]
             + [("firm", t, tuple(range(t - 12, t))) for t in range(12, 40)])
BACKWARDS = tuple([("firm", t, tuple(range(t + 1, t + 13))) for t in range(40)])


class IsFact(unittest.TestCase):
    def test_facts(self):
        for thing in [("firm", 0, ()), ("firm", 1, (0,)), ("firm", 1, (0, 2, 3)), ("dropped", 0), ("dropped", 7),
                      ("firm", 10 ** 39, (1, 10 ** 38)), ("firm", 0, tuple(range(1, 13)))]:
            self.assertIs(is_fact(thing), True, thing)
            self.assertIs(is_fact(thing=thing), True, thing)

    def test_somewhat_more_conditions_are_no_error(self):
        self.assertIs(is_fact(("firm", 0, tuple(range(1, 100)))), True)

    def test_no_facts(self):
        for thing in NO_FACTS_ALONE + plain_things():
            self.assertIs(is_fact(thing), False, thing)

    def test_altered_facts(self):
        for fact in [("firm", 3, (2, 7)), ("firm", 1, ()), ("dropped", 4)]:
            for thing in altered(fact):
                self.assertIs(is_fact(thing), reference.is_fact(thing), thing)


class AreFacts(unittest.TestCase):
    def test_facts(self):
        for thing in [(), SOME, SOME[2:3], (("dropped", 0),), (("firm", 0, (5,)), ("dropped", 5)), FULL, BACKWARDS]:
            self.assertIs(are_facts(thing), True, thing)
            self.assertIs(are_facts(thing=thing), True, thing)

    def test_somewhat_more_facts_are_no_error(self):
        self.assertIs(are_facts(tuple([("dropped", t) for t in range(60)])), True)

    def test_no_facts(self):
        for thing in NO_FACTS + [thing for thing in plain_things() if thing != ()]:
            self.assertIs(are_facts(thing), False, thing)

    def test_altered_facts(self):
        for thing in altered(SOME):
            self.assertIs(are_facts(thing), reference.are_facts(thing), thing)


class WhatFollows(unittest.TestCase):
    def check(self, facts, kept, dropped, still_open):
        self.assertEqual((kept_by(facts), dropped_by(facts), open_by(facts)), (kept, dropped, still_open))
        for t in range(max((0, *kept, *dropped, *still_open)) + 2):
            word = "kept" if t in kept else "dropped" if t in dropped else "open"
            self.assertEqual(fate(facts, t), word)
            self.assertEqual(fate(t=t, facts=facts), word)

    def test_no_facts_at_all(self):
        self.check((), (), (), ())
        self.assertEqual((fate((), 10 ** 39), needed((), 5)), ("open", (5,)))

    def test_conditions(self):
        self.check((("firm", 1, ()),), (1,), (), ())
        self.check((("dropped", 1),), (), (1,), ())
        self.check((("firm", 1, (2, 3)), ("firm", 2, ()), ("firm", 3, (2,))), (1, 2, 3), (), ())
        self.check((("firm", 1, (2, 3)), ("firm", 2, ())), (2,), (), (1, 3))
        self.check((("firm", 1, (0,)),), (), (), (0, 1))

    def test_a_dropped_condition(self):
        self.check((("dropped", 1), ("firm", 2, ()), ("firm", 3, (1, 2)), ("firm", 4, (3, 9))), (2,), (1, 3, 4), (9,))

    def test_rings(self):
        self.check((("firm", 1, (2,)), ("firm", 2, (1,))), (), (1, 2), ())
        self.check((("firm", 1, (2, 9)), ("firm", 2, (1, 8))), (), (1, 2), (8, 9))
        self.check((("firm", 1, (2,)), ("firm", 2, (3,)), ("firm", 3, (1,))), (), (1, 2, 3), ())
        self.check((("firm", 1, (2,)), ("firm", 2, (3,))), (), (), (1, 2, 3))
        ring = tuple([("firm", t, ((t + 7) % 40,)) for t in range(40)])
        self.check(ring, (), tuple(range(40)), ())
        self.check(ring[1:], (), (), tuple(range(40)))

    def test_a_chain_into_a_ring(self):
        facts = (("firm", 1, (2,)), ("firm", 2, (4,)), ("firm", 4, (5,)), ("firm", 5, (4, 6)), ("firm", 6, ()))
        self.check(facts, (6,), (1, 2, 4, 5), ())
        self.check((("firm", 3, (6,)), ("firm", 5, (6,)), ("firm", 6, (5,))), (), (3, 5, 6), ())

    def test_what_a_ring_leads_to_is_not_dropped(self):
        self.check((("firm", 1, (2,)), ("firm", 2, (1, 3)), ("firm", 3, (4,))), (), (1, 2), (3, 4))

    def test_large_transactions(self):
        self.assertEqual(kept_by((("firm", 3, (10 ** 39,)), ("firm", 10 ** 39, ()))), (3, 10 ** 39))

    def test_forty_facts_with_twelve_conditions(self):
        self.check(FULL, tuple(range(40)), (), ())
        self.check((("dropped", 0),) + FULL[1:], tuple(range(1, 12)), (0, *range(12, 40)), ())
        self.check(FULL[:11] + FULL[12:], tuple(range(11)), (), tuple(range(11, 40)))
        self.check(BACKWARDS, (), (), tuple(range(52)))
        self.check(BACKWARDS[:39] + (("dropped", 39),), (), tuple(range(40)), tuple(range(40, 51)))

    def test_all_facts_of_three_transactions(self):
        for facts in reference.all_facts((0, 1, 2), (0, 1, 2, 3)):
            kept, dropped, named = reference.kept(facts), reference.dropped(facts), reference.named(facts)
            self.assertFalse(kept & dropped)
            self.assertEqual((kept_by(facts), dropped_by(facts), open_by(facts)),
                             tuple([tuple(sorted(part)) for part in (kept, dropped, named - kept - dropped)]), facts)
            for t in range(5):
                self.assertEqual(fate(facts, t), reference.fate(facts, t), (facts, t))
                self.assertEqual(needed(facts, t), reference.needed(facts, t), (facts, t))

    def test_what_follows_stays_if_facts_are_added(self):
        for facts in reference.all_facts((0, 2, 3), (0, 1, 2, 3)):
            for part in reference.subsets(facts):
                for t in range(4):
                    self.assertIn(fate(part, t), ("open", fate(facts, t)))


class Needed(unittest.TestCase):
    def test_kept_and_dropped(self):
        self.assertEqual([needed(SOME, t) for t in (1, 2, 4, 5, 8, 9)], [()] * 6)
        # A dropped transaction needs nothing, even if it leads to one without a fact.
        self.assertEqual(needed((("firm", 1, (2, 3)), ("dropped", 2)), 1), ())

    def test_open(self):
        self.assertEqual(needed(SOME, 3), (7,))
        self.assertEqual(needed(SOME, 7), (7,))
        self.assertEqual(needed(SOME, 100), (100,))
        facts = (("firm", 1, (2, 9)), ("firm", 2, (3, 5, 8)), ("firm", 3, (5,)), ("firm", 8, ()), ("firm", 6, (7,)))
        self.assertEqual(needed(facts=tuple(sorted(facts, key=lambda fact: fact[1])), t=1), (5, 9))

    def test_forty_facts_with_twelve_conditions(self):
        self.assertEqual(needed(BACKWARDS, 0), tuple(range(40, 52)))
        self.assertEqual(needed(BACKWARDS, 39), tuple(range(40, 52)))
        self.assertEqual(needed(FULL[:11] + FULL[12:], 39), (11,))

    def test_facts_for_what_is_needed_decide(self):
        for facts in reference.all_facts((0, 1, 2), (0, 1, 2, 3)):
            for t in range(5):
                for word in ("kept", "dropped"):
                    new = [("firm", u, ()) if word == "kept" else ("dropped", u) for u in needed(facts, t)]
                    both = tuple(sorted([*facts, *new], key=lambda fact: fact[1]))
                    self.assertEqual(fate(both, t), word if new else fate(facts, t))
                    self.assertNotEqual(fate(both, t), "open")


class WrongInputs(unittest.TestCase):
    def raises(self, error, thing, call):
        with self.subTest(thing=thing), self.assertRaises(error) as caught:
            call()
        self.assertIs(caught.exception.thing, thing)

    def test_no_facts(self):
        things = NO_FACTS + [thing for thing in plain_things() if thing != ()]
        for thing in things + [("firm", 1, ())]:
            for function in (kept_by, dropped_by, open_by):
                self.raises(BadFacts, thing, lambda: function(thing))
                self.raises(BadFacts, thing, lambda: function(facts=thing))
            for function in (fate, judge_fate, needed):
                self.raises(BadFacts, thing, lambda: function(thing, 1))
                self.raises(BadFacts, thing, lambda: function(t=1, facts=thing))
                self.raises(BadFacts, thing, lambda: function(thing, None))
            self.raises(BadFacts, thing, lambda: fate_holds(thing, 1, ("kept", (1,))))
            self.raises(BadFacts, thing, lambda: fate_holds(thing, -1, None))
            self.raises(BadFacts, thing, lambda: fate_holds(thing=None, t=True, facts=thing))

    def test_no_transaction(self):
        for thing in NO_TRANSACTIONS + [thing for thing in plain_things() if not reference.is_number(thing)]:
            for function in (fate, judge_fate, needed):
                self.raises(BadTransaction, thing, lambda: function(SOME, thing))
                self.raises(BadTransaction, thing, lambda: function((), thing))
                self.raises(BadTransaction, thing, lambda: function(t=thing, facts=SOME))
            self.raises(BadTransaction, thing, lambda: fate_holds(SOME, thing, ("kept", (1,))))
            self.raises(BadTransaction, thing, lambda: fate_holds(SOME, thing, None))
            self.raises(BadTransaction, thing, lambda: fate_holds(thing=("kept", (1,)), t=thing, facts=()))


if __name__ == "__main__":
    unittest.main()
