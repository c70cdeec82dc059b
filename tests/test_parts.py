import unittest
from itertools import permutations
from random import Random

from tests import reference
from tests.test_certificates import some_facts
from tests.test_facts import BACKWARDS, FULL, NO_FACTS, NO_TRANSACTIONS
from tests.things import SOME, altered, plain_things
from yesifs.errors import BadFacts, BadTransaction, Clash, IsOpen
from yesifs.facts import fate
from yesifs.parts import are_same_fates, is_reason, merged, reason

RINGS = (("firm", 1, (2, 3)), ("firm", 2, (1,)), ("firm", 3, (1,)), ("dropped", 4), ("firm", 5, (1, 4, 6)),
         ("firm", 6, ()))
BROKEN = (("dropped", 0),) + FULL[1:]
WRONG = NO_FACTS + [thing for thing in plain_things() if thing != ()]


def is_reason_by_the_words(facts, t, thing):
    word = reference.fate(facts, t)
    return (reference.are_facts(thing) and set(thing) <= set(facts) and reference.fate(thing, t) == word
            and all(reference.fate(thing[:at] + thing[at + 1:], t) == "open" for at in range(len(thing))))


class Merged(unittest.TestCase):
    def check(self, one, other, both):
        for found in (merged(one, other), merged(other, one), merged(other=other, one=one)):
            self.assertEqual(found, both)
            self.assertIs(type(found), tuple)

    def test_without_clash(self):
        self.check((), (), ())
        self.check(SOME, (), SOME)
        self.check(SOME, SOME, SOME)
        self.check(SOME[::2], SOME[1::2], SOME)
        self.check(SOME[:5], SOME[2:], SOME)
        self.check((("firm", 9, (3,)),), (("dropped", 0),), (("dropped", 0), ("firm", 9, (3,))))
        self.check(BACKWARDS[:30], BACKWARDS[10:], BACKWARDS)

    def test_clash(self):
        ones = (("firm", 1, ()), ("firm", 3, (1, 2)), ("dropped", 5), ("firm", 7, ()))
        for others, t in [((("dropped", 1),), 1), ((("firm", 1, (2,)),), 1), ((("firm", 3, (1,)),), 3),
                          ((("firm", 5, ()),), 5), ((("firm", 5, ()), ("dropped", 7)), 5),
                          ((("dropped", 0), ("firm", 1, ()), ("firm", 3, (1, 2, 4)), ("dropped", 7)), 3),
                          ((("dropped", 4), ("dropped", 5), ("dropped", 6), ("dropped", 7)), 7)]:
            for one, other in [(ones, others), (others, ones)]:
                with self.assertRaises(Clash) as caught:
                    merged(one, other)
                self.assertEqual(vars(caught.exception), {"t": t})

    def test_all_facts_of_two_transactions(self):
        some = reference.all_facts((1, 2), (1, 2))
        for one in some:
            for other in some:
                clashes = [t for t in (1, 2) if len({fact for fact in one + other if fact[1] == t}) > 1]
                if clashes:
                    with self.assertRaises(Clash) as caught:
                        merged(one, other)
                    self.assertEqual(caught.exception.t, clashes[0])
                else:
                    both = tuple(sorted(set(one + other), key=lambda fact: fact[1]))
                    self.assertEqual(merged(one, other), both)


class AreSameFates(unittest.TestCase):
    def test_told_otherwise(self):
        for one, other, expected in [
                ((), (), True), (SOME, SOME, True), (SOME, SOME[:-1], False), ((), (("firm", 1, (2,)),), True),
                ((("firm", 1, (2,)),), (("firm", 2, (3,)), ("firm", 7, (1, 9))), True),
                ((), (("dropped", 1),), False), ((("firm", 1, ()),), (("dropped", 1),), False),
                ((("firm", 1, ()), ("firm", 2, (1,))), (("firm", 1, (2,)), ("firm", 2, ())), True),
                ((("firm", 1, (2,)), ("firm", 2, (1,))), (("dropped", 1), ("dropped", 2)), True),
                ((("firm", 1, (2,)), ("dropped", 2)), (("dropped", 1), ("firm", 2, (1,))), True),
                ((("firm", 1, (2,)), ("dropped", 2)), (("dropped", 1),), False)]:
            self.assertIs(are_same_fates(one, other), expected, (one, other))
            self.assertIs(are_same_fates(other, one), expected)
            self.assertIs(are_same_fates(other=other, one=one), expected)

    def test_all_facts_of_two_transactions(self):
        some = reference.all_facts((1, 2), (1, 2, 3))
        fates = {facts: [reference.fate(facts, t) for t in (1, 2, 3)] for facts in some}
        for one in some:
            for other in some:
                self.assertIs(are_same_fates(one, other), fates[one] == fates[other], (one, other))


class Reasons(unittest.TestCase):
    def check(self, facts, t, *right):
        self.assertIn(reason(facts, t), right)
        self.assertEqual(reason(t=t, facts=facts), reason(facts, t))
        for thing in reference.subsets(facts):
            self.assertIs(is_reason(facts, t, thing), thing in right, (facts, t, thing))

    def test_kept(self):
        facts = (("firm", 1, ()), ("firm", 2, (1,)), ("firm", 3, ()), ("firm", 4, (2, 3)), ("dropped", 5))
        self.check(facts, 1, facts[:1])
        self.check(facts, 2, facts[:2])
        self.check(facts, 4, facts[:4])

    def test_dropped(self):
        self.check(RINGS, 1, RINGS[:2], (RINGS[0], RINGS[2]))
        self.check(RINGS, 2, RINGS[:2])
        self.check(RINGS, 4, RINGS[3:4])
        self.check(RINGS, 5, RINGS[3:5], RINGS[:2] + RINGS[4:5], (RINGS[0], RINGS[2], RINGS[4]))
        self.check((("firm", 1, (2,)), ("dropped", 2), ("firm", 3, (1, 2))), 3,
                   (("dropped", 2), ("firm", 3, (1, 2))))

    def test_other_orders_and_facts_twice(self):
        facts = (("firm", 1, ()), ("firm", 2, (1,)))
        for thing in [facts[::-1], facts + facts[1:], facts[:1] + facts, facts * 2, list(facts), (list(facts[0]),)]:
            self.assertIs(is_reason(facts, 2, thing), False, thing)

    def test_facts_that_are_not_among_them(self):
        facts = (("firm", 1, ()), ("firm", 2, (1,)))
        for thing in [(("firm", 2, ()),), (("dropped", 2),), (("firm", 1, ()), ("firm", 2, ())),
                      (("firm", 1, ()), ("firm", 2, (1, 3)), ("firm", 3, ())), (("firm", True, ()), ("firm", 2, (1,))),
                      (("firm", 1, ()), ("firm", 2, (True,))), facts + (("firm", 3, ()),)]:
            self.assertIs(is_reason(facts, 2, thing), False, thing)
        self.assertIs(is_reason(facts=facts, thing=facts, t=2), True)

    def test_all_facts_of_three_transactions(self):
        for facts in reference.all_facts((0, 1, 2), (0, 1, 2)):
            for t in range(3):
                if reference.fate(facts, t) != "open":
                    right = [part for part in reference.subsets(facts) if is_reason_by_the_words(facts, t, part)]
                    self.check(facts, t, *right)

    def test_some_larger_facts(self):
        random = Random(3)
        for many, most in [(5, 2), (6, 1), (6, 2), (6, 3)] * 5:
            facts = some_facts(random, many, most)
            for t in [t for t in range(many) if reference.fate(facts, t) != "open"]:
                found = reason(facts, t)
                self.assertTrue(is_reason_by_the_words(facts, t, found), (facts, t, found))
                self.assertIs(is_reason(facts, t, found), True)
                if reference.fate(facts, t) == "kept":
                    firm = reference.firm_of(facts)
                    inside = {t}
                    while inside != inside | {u for v in inside for u in firm[v]}:
                        inside |= {u for v in inside for u in firm[v]}
                    self.assertEqual({fact[1] for fact in found}, inside)

    def test_altered_reasons(self):
        for facts, t in [(RINGS, 1), (RINGS, 5), (RINGS, 6), (SOME, 2), (SOME, 5), (SOME, 9)]:
            for thing in altered(reason(facts, t)):
                self.assertIs(is_reason(facts, t, thing), is_reason_by_the_words(facts, t, thing), thing)
            for thing in permutations(reason(facts, t)):
                self.assertIs(is_reason(facts, t, thing), list(thing) == sorted(thing, key=lambda fact: fact[1]))

    def test_any_values(self):
        for thing in plain_things():
            for t in (1, 2, 5, 8):
                self.assertIs(is_reason(SOME, t, thing), False, thing)

    def test_forty_facts_with_twelve_conditions(self):
        for facts, t, word in [(FULL, 39, "kept"), (BROKEN, 39, "dropped"), (BROKEN, 11, "kept"),
                               (BACKWARDS[:39] + (("dropped", 39),), 0, "dropped")]:
            found = reason(facts, t)
            self.assertEqual(fate(found, t), word)
            self.assertIs(is_reason(facts, t, found), True)
            self.assertIs(is_reason(facts, t, found[1:]), False)
            self.assertIs(is_reason(facts, t, facts), facts == found)
        self.assertEqual(reason(FULL, 39), FULL)
        self.assertIs(are_same_fates(FULL, BROKEN), False)
        self.assertEqual(merged(FULL[:25], FULL[20:]), FULL)


class WrongInputs(unittest.TestCase):
    def raises(self, error, thing, call):
        with self.assertRaises(error) as caught:
            call()
        self.assertEqual(list(vars(caught.exception).values()), [thing])
        self.assertIs(list(vars(caught.exception).values())[0], thing)

    def test_no_facts(self):
        for thing in WRONG:
            for function in (merged, are_same_fates):
                self.raises(BadFacts, thing, lambda: function(thing, SOME))
                self.raises(BadFacts, thing, lambda: function(SOME, thing))
                self.raises(BadFacts, thing, lambda: function(thing, ["another"]))
                self.raises(BadFacts, thing, lambda: function(other=(1,), one=thing))
            self.raises(BadFacts, thing, lambda: reason(thing, 1))
            self.raises(BadFacts, thing, lambda: reason(t=None, facts=thing))
            self.raises(BadFacts, thing, lambda: is_reason(thing, 1, ()))
            self.raises(BadFacts, thing, lambda: is_reason(thing=(), t=True, facts=thing))

    def test_no_transaction(self):
        for thing in NO_TRANSACTIONS + [thing for thing in plain_things() if not reference.is_number(thing)]:
            self.raises(BadTransaction, thing, lambda: reason(SOME, thing))
            self.raises(BadTransaction, thing, lambda: reason(t=thing, facts=()))
            self.raises(BadTransaction, thing, lambda: is_reason(SOME, thing, None))
            self.raises(BadTransaction, thing, lambda: is_reason(thing=(), t=thing, facts=()))

    def test_open(self):
        for t in (3, 7, 0, 10, 10 ** 39):
            self.raises(IsOpen, t, lambda: reason(SOME, t))
            self.raises(IsOpen, t, lambda: is_reason(SOME, t, ()))
            self.raises(IsOpen, t, lambda: is_reason(thing=SOME[:1], t=t, facts=SOME))
            self.raises(IsOpen, t, lambda: is_reason((), t, [None]))


if __name__ == "__main__":
    unittest.main()
