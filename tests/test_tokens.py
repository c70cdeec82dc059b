"""Token stores, what they show, and that least conditions are least (part 7)."""

import unittest
from itertools import permutations, product
from random import Random

from tests import making, reference
from tests import reference_sites as sites
from tests import reference_tokens as tokens
from tests.cases import Raising
from tests.test_histories import CELLS, EMPTY, LENT, TWO
from tests.test_judge import BARE, BUILT, EARLY, ONE, steps
from tests.test_sites import NO_HISTORIES, NO_TABLES
from tests.things import altered, plain_things
from yesifs.errors import (BadConditions, BadHistory, BadOutcome, BadStore, BadTable, BadTransaction, BadWord, IsRight,
                           NotRight)
from yesifs.judge import history_holds, is_right, is_right_now, is_sufficient, judge_history
from yesifs.tokens import does_show, is_store, result, store_against, weakened

NO_MOVE = (0, 1, 2)
FIRST, SECOND, ROUND = (1, 0, 2), (0, 2, 1), (1, 2, 0)
THREE = (3, (FIRST, SECOND, NO_MOVE))
FREE = (("add", "get"), ())
# 1 before 2, 2 before 3 and 3 before 1, in whatever order they are run.
CIRCLE = (("do", 1, "a"), ("do", 2, "a"), ("do", 2, "b"), ("do", 3, "b"), ("do", 3, "c"), ("do", 1, "c"),
          ("yes", 1, ()), ("yes", 2, ()), ("yes", 3, ()))
CIRCLES = (("a", "b", "c"), (("a", "a"), ("b", "b"), ("c", "c")))


class Case(Raising):
    def stores(self, expected, table, history, *things):
        for thing in things:
            self.assertIs(is_store(table, history, thing), expected, thing)
            self.assertIs(is_store(thing=thing, history=history, table=table), expected)
            self.assertIs(tokens.is_store(table, history, thing), expected, thing)

    def shown(self, table, history, found, most=30):
        """An outcome and a store that shows that the history is wrong for it, as the program and the reference say."""
        self.assertIs(type(found), tuple)
        outcome, store = found
        self.assertIn(outcome, sites.outcomes(table, history))
        self.assertLessEqual(store[0], most)
        self.assertIs(tokens.does_show(table, history, outcome, store), True, (table, history, found))
        self.assertIs(does_show(table, history, outcome, store), True)
        self.assertIs(does_show(thing=store, outcome=outcome, history=history, table=table), True)

    def wrong(self, table, history):
        self.assertIs(is_right_now(table, history), False)
        found = store_against(table, history)
        self.assertEqual(store_against(history=history, table=table), found)
        self.shown(table, history, found)

    def right(self, table, history):
        self.assertIs(is_right_now(table, history), True)
        for call in (lambda: store_against(table, history), lambda: store_against(history=history, table=table)):
            with self.assertRaises(IsRight):
                call()


class Stores(Case):
    def test_the_number_of_places(self):
        for many in (1, 2, 29, 30):
            plain = tuple(range(many))
            self.stores(True, CELLS, TWO, (many, (plain, plain)), (many, (plain[::-1], plain)))
        for many in (0, 31, -1, 32, 10 ** 39):
            plain = tuple(range(min(many, 40)))
            self.stores(False, CELLS, TWO, (many, (plain, plain)))
            self.stores(False, CELLS, (), (many, ()))

    def test_the_empty_history(self):
        self.stores(True, CELLS, (), (1, ()), (30, ()))
        self.stores(True, EMPTY, (), (3, ()))
        self.stores(False, CELLS, (), (1, ((0,),)), (1, []), (1, None), (True, ()), ((), 1), (1,), (1, (), ()), [1, ()])

    def test_moves_that_are_no_permutations(self):
        for move in [(0, 1), (0, 1, 1), (0, 1, 3), (1, 2, 3), (-1, 0, 1), (0, 1, 2, 3), (0, 1, 2, 2), (), [0, 1, 2],
                     (False, True, 2), (0, True, 2), (0, 1, "2"), (0, 1, None), (0, 1, (2,)), None, 1, "012", {}]:
            self.stores(False, CELLS, BARE, (3, (FIRST, SECOND, move)), (3, (move, SECOND, NO_MOVE)))

    def test_the_number_of_moves(self):
        self.stores(False, CELLS, BARE, (3, ()), (3, THREE[1][:2]), (3, THREE[1] + (NO_MOVE,)), (3, [*THREE[1]]))
        self.stores(False, CELLS, BARE, (2, THREE[1]), (4, THREE[1]), THREE[::-1], THREE + ((),), [*THREE], THREE[1])

    def test_only_steps_move(self):
        self.stores(True, CELLS, BARE, THREE)
        self.stores(False, CELLS, BARE, (3, (FIRST, SECOND, FIRST)))
        for event in (("no", 1), ("hear", ("dropped", 7)), ("fall",), ("hear", ("firm", 7, ()))):
            self.stores(True, CELLS, TWO + (event,), THREE)
            self.stores(False, CELLS, TWO + (event,), (3, (FIRST, SECOND, SECOND)))
        self.stores(False, CELLS, EARLY, (3, (FIRST, SECOND, NO_MOVE, FIRST)))
        self.stores(True, CELLS, EARLY, (3, (FIRST, SECOND, NO_MOVE, NO_MOVE)))

    def test_steps_without_conflict_commute(self):
        self.stores(False, FREE, TWO, (3, (FIRST, SECOND)), (3, (FIRST, ROUND)))
        self.stores(True, FREE, TWO, (3, (ROUND, ROUND)), (3, (ROUND, (2, 0, 1))), (3, (FIRST, FIRST)),
                    (4, ((1, 0, 2, 3), (0, 1, 3, 2))))
        # Both adds, first and last, do not conflict; of one transaction they do.
        self.stores(False, CELLS, BUILT, (3, (FIRST, NO_MOVE, SECOND)))
        self.stores(True, CELLS, BUILT, (3, (FIRST, SECOND, FIRST)))
        same = TWO + (("do", 1, "add"),)
        self.stores(True, CELLS, same, (3, (FIRST, NO_MOVE, SECOND)))
        self.stores(True, FREE, (("do", 1, "add"), ("do", 1, "add")), (3, (FIRST, SECOND)))
        # Steps that are taken back have moves as others have.
        self.stores(False, FREE, TWO + (("fall",),), (3, (FIRST, SECOND, NO_MOVE)))

    def test_any_values(self):
        for history in ((), TWO, BARE):
            for thing in plain_things():
                self.stores(False, CELLS, history, thing)
        for thing in altered(THREE):
            self.stores(tokens.is_store(CELLS, BARE, thing), CELLS, BARE, thing)

    def test_random_stores(self):
        random = Random(71)
        seen = {True: 0, False: 0}
        for n in range(2500):
            table = making.random_table(random)
            history = making.random_history(random, table, random.randint(0, 6), 3, (8, 1, 1, 1, 1, 1))
            store = random_store(random, history, random.randint(2, 4))
            expected = tokens.is_store(table, history, store)
            seen[expected] += 1
            self.stores(expected, table, history, store)
        self.assertGreater(min(seen.values()), 100)


def random_store(random, history, many):
    moves = []
    for event in history:
        move = list(range(many))
        if event[0] == "do" and random.random() < 0.7:
            random.shuffle(move)
        moves.append(tuple(move))
    return (many, tuple(moves))


class Results(Case):
    def check(self, store, word, expected, table=CELLS, history=BARE):
        self.assertEqual(result(table, history, store, word), expected)
        self.assertEqual(result(word=word, store=store, history=history, table=table), expected)
        self.assertEqual(tokens.result(store, word), expected)

    def test_words(self):
        self.check(THREE, (), (0, 1, 2))
        self.check(THREE, ((0, 1),), (1, 0, 2))
        self.check(THREE, ((0, 1), (1, 1)), (1, 2, 0))
        self.check(THREE, ((1, 1), (0, 1)), (2, 0, 1))
        self.check(THREE, ((0, 1), (0, -1)), (0, 1, 2))
        self.check(THREE, ((0, -1), (0, 1)), (0, 1, 2))
        self.check(THREE, ((0, 1), (1, 1), (0, -1)), (2, 1, 0))

    def test_a_move_and_its_inverse(self):
        store = (3, (ROUND, NO_MOVE, NO_MOVE))
        # The token of place 0 goes to place 1, that of 1 to 2, and that of 2 to 0.
        self.check(store, ((0, 1),), (2, 0, 1))
        self.check(store, ((0, -1),), (1, 2, 0))
        self.check(store, ((0, 1), (0, 1)), (1, 2, 0))
        self.check(store, ((0, 1),) * 3, (0, 1, 2))
        self.check(store, ((0, -1), (0, -1)), (2, 0, 1))

    def test_the_smallest_and_the_greatest_store(self):
        self.check((1, ((0,), (0,), (0,))), ((0, 1), (1, -1)), (0,))
        last = tuple(range(29, -1, -1))
        self.check((30, (last, tuple(range(30)), tuple(range(30)))), ((0, 1),), last)
        self.check((2, ()), (), (0, 1), history=())

    def test_random_words(self):
        random = Random(72)
        for n in range(300):
            history = tuple([("do", random.randint(1, 3), "a") for _ in range(random.randint(1, 5))])
            store = random_store(random, history, random.randint(1, 6))
            word = tuple([(random.randrange(len(history)), random.choice([1, -1])) for _ in range(random.randint(0, 9))])
            self.check(store, word, tokens.result(store, word), ONE, history)

    def test_bad_words(self):
        for thing in [((2, 1),), ((3, 1),), ((-1, 1),), ((0, 0),), ((0, 2),), ((0, True),), ((True, 1),), ((0, 1, 1),),
                      ((0,),), ((0, "1"),), (("0", 1),), ((0, None),), ([0, 1],), [(0, 1)], (0, 1), None, 1, "", {},
                      ((0, 1), None), ((0, 1), (5, 1)), ((0, 10 ** 39),), *altered(((0, 1), (1, -1)))]:
            if tokens.is_word(BARE, thing):
                self.assertEqual(result(CELLS, BARE, THREE, thing), tokens.result(THREE, thing))
            else:
                self.raises(BadWord, thing, lambda: result(CELLS, BARE, THREE, thing),
                            lambda: result(word=thing, store=THREE, history=BARE, table=CELLS))
        for thing in plain_things():
            if thing != ():
                self.raises(BadWord, thing, lambda: result(CELLS, BARE, THREE, thing))


class Shown(Case):
    def test_the_example(self):
        self.assertIs(does_show(CELLS, BARE, (2,), THREE), True)
        for outcome in ((), (1,), (1, 2)):
            self.assertIs(does_show(CELLS, BARE, outcome, THREE), False)
        # Without conflicts nothing is shown: this store does not fit then.
        self.assertIs(does_show(FREE, BARE, (2,), THREE), False)
        self.assertIs(does_show(CELLS, BARE, (2,), (3, (FIRST, FIRST, NO_MOVE))), False)
        self.assertIs(does_show(CELLS, BARE, (2,), (1, ((0,), (0,), (0,)))), False)

    def test_all_small_stores(self):
        for history in (BARE, EARLY, LENT, TWO + (("yes", 1, ()), ("yes", 2, ()))):
            for many in (1, 2, 3):
                for moves in product(permutations(range(many)), repeat=2):
                    store = (many, moves + (tuple(range(many)),) * (len(history) - 2))
                    for outcome in sites.outcomes(CELLS, history):
                        expected = tokens.does_show(CELLS, history, outcome, store)
                        self.assertIs(does_show(CELLS, history, outcome, store), expected, (history, store))

    def test_every_allowed_order_has_to_differ(self):
        # 1 and 2 stand in both orders; both are allowed, and the first one is right.
        both = TWO + (("yes", 1, ()), ("yes", 2, ()))
        store = (3, (FIRST, SECOND, NO_MOVE, NO_MOVE))
        self.assertIs(does_show(CELLS, both, (1, 2), store), False)
        # Here the facts allow only the other one, which is wrong.
        later = both + (("hear", ("firm", 2, ())), ("hear", ("firm", 1, (2,))))
        store = (3, store[1] + (NO_MOVE, NO_MOVE))
        self.assertIs(does_show(CELLS, later, (1, 2), store), True)
        self.wrong(CELLS, later)

    def test_random_stores(self):
        random = Random(73)
        seen = {True: 0, False: 0}
        for n in range(2500):
            table = random.choice([ONE, (("a", "b"), (("a", "a"), ("a", "b"), ("b", "b"))), making.random_table(random)])
            history = random.choice([making.voted_history, making.random_history])(
                random, table, random.randint(4, 8), 3)
            store = random_store(random, history, 3)
            for outcome in sites.outcomes(table, history):
                expected = tokens.does_show(table, history, outcome, store)
                seen[expected] += 1
                self.assertIs(does_show(table, history, outcome, store), expected, (table, history, outcome, store))
        self.assertGreater(min(seen.values()), 100)

    def test_any_values(self):
        for thing in [*plain_things(), *altered(THREE)]:
            expected = tokens.does_show(CELLS, BARE, (2,), thing)
            self.assertIs(does_show(CELLS, BARE, (2,), thing), expected, thing)

    def test_bad_outcomes(self):
        for thing in [*plain_things(), *altered((2,)), (2, 1), (3,), [2], (True,), (1, 1), (1, True)]:
            if repr(thing) not in ("()", "(1,)", "(2,)", "(1, 2)"):
                self.raises(BadOutcome, thing, lambda: does_show(CELLS, BARE, thing, THREE),
                            lambda: does_show(CELLS, BARE, thing, None),
                            lambda: does_show(thing=None, outcome=thing, history=BARE, table=CELLS))


class Against(Case):
    def test_an_insufficient_vote(self):
        self.wrong(CELLS, BARE)
        self.assertEqual(store_against(CELLS, BARE)[0], (2,))
        self.wrong(ONE, steps(1, 2, 3) + (("yes", 3, (1,)), ("yes", 1, ())))

    def test_a_supporter_that_leads_to_the_voter(self):
        # Whatever is kept, 1 comes after 2 by its vote, and before it by its step.
        self.wrong(CELLS, TWO + (("do", 1, "get"), ("yes", 2, ()), ("yes", 1, (2,))))
        far = TWO + (("yes", 1, ()), ("yes", 2, ()), ("hear", ("firm", 1, (3,))), ("hear", ("firm", 3, (2,))),
                     ("hear", ("firm", 2, ())))
        self.assertEqual(sites.outcomes(CELLS, far), ((1, 2),))
        self.wrong(CELLS, far)

    def test_a_compensation_that_is_not_nested(self):
        self.wrong(CELLS, EARLY)
        self.wrong(ONE, steps(1, 2) + (("no", 2), ("no", 1), ("back", 1, 0), ("back", 2, 1)))
        self.wrong(ONE, steps(1, 1) + (("no", 1), ("back", 1, 0)))
        self.wrong(ONE, steps(1, 1) + (("no", 1), ("back", 1, 0), ("back", 1, 1)))

    def test_a_wrong_compensation_ahead_of_a_fall(self):
        self.wrong(CELLS, EARLY + (("fall",),))
        self.wrong(ONE, steps(1, 2) + (("no", 1), ("back", 1, 0), ("fall",)))
        # A wrong vote whose supporter falls.
        self.wrong(CELLS, BARE + (("fall",),))

    def test_a_ring_of_supporters(self):
        self.assertIn((1, 2, 3), sites.outcomes(CIRCLES, CIRCLE))
        heard = CIRCLE + tuple([("hear", ("firm", t, ())) for t in (1, 2, 3)])
        self.assertEqual(sites.outcomes(CIRCLES, heard), ((1, 2, 3),))
        self.wrong(CIRCLES, CIRCLE)
        self.wrong(CIRCLES, heard)
        # One of the orders between them is required by a condition, so two pairs of steps suffice.
        leading = CIRCLE[:6] + (("yes", 1, ()), ("yes", 2, (1,)), ("yes", 3, ()))
        leading += tuple([("hear", ("firm", t, (1,) if t == 2 else ())) for t in (1, 2, 3)])
        self.wrong(CIRCLES, leading)

    def test_a_ring_of_supporters_and_a_condition(self):
        # 1 supports 2, and 2 supports 3, and 1 comes after 3 by its fact, though no step of 3 supports it.
        history = CIRCLE[:4] + (("yes", 1, ()), ("yes", 2, ()), ("yes", 3, ()), ("hear", ("firm", 1, (3,))),
                                ("hear", ("firm", 2, ())), ("hear", ("firm", 3, ())))
        self.assertEqual(sites.outcomes(CIRCLES, history), ((1, 2, 3),))
        self.wrong(CIRCLES, history)
        self.right(CIRCLES, history[:7] + (("hear", ("firm", 1, ())),) + history[8:])

    def test_a_ring_of_supporters_with_eight_transactions(self):
        kinds = tuple("abcdefgh")
        table = (kinds, tuple([(kind, kind) for kind in kinds]))
        history = tuple([("do", (k + more) % 8, kind) for k, kind in enumerate(kinds) for more in (0, 1)])
        # Of the last kind 0 would come first; the exchange makes it come after 7.
        history += tuple([("yes", t, ()) for t in range(8)]) + tuple([("hear", ("firm", t, ())) for t in range(8)])
        found = store_against(table, history)
        self.assertEqual(found[0], tuple(range(8)))
        self.assertLessEqual(found[1][0], 30)
        self.assertIs(does_show(table, history, *found), True)
        self.assertIs(tokens.is_store(table, history, found[1]), True)

    def test_histories_that_are_right_now(self):
        for history in ((), TWO, LENT, BUILT, TWO + (("no", 2), ("back", 2, 1)), TWO + (("fall",),)):
            self.right(CELLS, history)
        self.right(FREE, BARE)
        self.right(FREE, EARLY)
        self.right(EMPTY, ())
        # Right again, though not at every moment.
        again = BARE + (("yes", 1, ()), ("hear", ("firm", 1, ())))
        self.assertIs(is_right(CELLS, again), False)
        self.right(CELLS, again)

    def test_random_histories(self):
        random = Random(74)
        seen = {True: 0, False: 0}
        for n in range(2500):
            table = making.random_table(random)
            make = random.choice([making.random_history, making.voted_history])
            history = make(random, table, random.randint(0, 8), random.randint(1, 4))
            expected = is_right_now(table, history)
            seen[expected] += 1
            (self.right if expected else self.wrong)(table, history)
        self.assertGreater(min(seen.values()), 80)

    def test_the_first_event_that_makes_a_history_wrong(self):
        # [0.3]: a small store shows it for the events up to that one, and none before.
        random = Random(76)
        many = 0
        for n in range(1500):
            table = making.random_table(random)
            make = random.choice([making.random_history, making.voted_history])
            history = make(random, table, random.randint(2, 9), random.randint(2, 4))
            certificate = judge_history(table, history)
            if certificate != ("right",):
                many += 1
                p = certificate[1]
                for at in range(p + 1):
                    self.right(table, history[:at])
                    self.right(table, history[:at] + (("fall",),))
                self.wrong(table, history[:p + 1])
        self.assertGreater(many, 100)


class Weakened(Case):
    def check(self, table, history, u, conditions):
        found = weakened(table, history, u, conditions)
        self.assertEqual(weakened(conditions=conditions, u=u, history=history, table=table), found)
        self.assertEqual(found[1][0], 3)
        self.shown(table, history + (("yes", u, conditions),), found, 3)

    def test_the_example(self):
        self.check(CELLS, TWO, 2, ())
        self.assertEqual(weakened(CELLS, TWO, 2, ())[0], (2,))

    def test_least_conditions_with_one_left_out(self):
        history = tuple([("do", t, "add") for t in range(1, 5)] + [("do", 5, "get")])
        for t in range(1, 5):
            self.check(CELLS, history, 5, tuple([u for u in range(1, 5) if u != t]))
        self.check(CELLS, history, 5, ())

    def test_a_supporter_that_is_kept_if_the_voter_is(self):
        # 1 is kept as soon as 2 is, but after it.
        history = TWO + (("yes", 1, ()), ("hear", ("firm", 1, (2,))))
        self.check(CELLS, history, 2, ())
        self.assertEqual(weakened(CELLS, history, 2, ())[0], (1, 2))
        far = TWO + (("yes", 1, ()), ("hear", ("firm", 1, (3, 4))), ("hear", ("firm", 3, (2,))))
        self.check(CELLS, far, 2, ())

    def test_random_histories(self):
        random = Random(75)
        seen = {True: 0, False: 0}
        for n in range(1200):
            table = making.random_table(random)
            history = making.random_history(random, table, random.randint(2, 8), 4, choose=making.sound_event)
            for u in sites.active(history):
                others = sorted(sites.performers(history) - {u})
                for conditions in reference.subsets(others):
                    enough = sites.is_sufficient(table, history, u, conditions)
                    seen[enough] += 1
                    if enough:
                        self.raises(BadConditions, conditions, lambda: weakened(table, history, u, conditions))
                    else:
                        self.check(table, history, u, conditions)
        self.assertGreater(min(seen.values()), 500)

    def test_a_history_that_is_not_right(self):
        for table, history in ((CELLS, BARE), (CELLS, EARLY), (CELLS, BARE + (("do", 3, "add"),))):
            for u, conditions in ((1, ()), (3, ()), (9, None), (None, None), (True, (1,))):
                for call in (lambda: weakened(table, history, u, conditions),
                             lambda: weakened(conditions=conditions, u=u, history=history, table=table)):
                    with self.assertRaises(NotRight) as caught:
                        call()
                    self.assertEqual(caught.exception.certificate[0], "wrong")
                    self.assertIs(history_holds(table, history, caught.exception.certificate), True)

    def test_no_active_transaction(self):
        voted = TWO + (("yes", 1, ()),)
        for history, things in ((TWO, (3, 0, 9)), (voted, (1, 3)), ((), (1,)), (TWO + (("no", 2),), (2,))):
            for u in things + (True, -1, "1", None, (1,), [1], {}, 10 ** 39):
                self.raises(BadTransaction, u, lambda: weakened(CELLS, history, u, ()),
                            lambda: weakened(CELLS, history, u, None),
                            lambda: weakened(conditions=None, u=u, history=history, table=CELLS))

    def test_bad_conditions(self):
        for thing in [*plain_things(), (1,), (2,), (1, 2), (3,), (1, 1), [1], (True,), *altered((1,))]:
            if thing == ():
                continue
            self.assertIs(is_sufficient(CELLS, TWO, 2, thing), thing == (1,) and type(thing[0]) is int)
            self.raises(BadConditions, thing, lambda: weakened(CELLS, TWO, 2, thing),
                        lambda: weakened(conditions=thing, u=2, history=TWO, table=CELLS))
        self.raises(BadConditions, (), lambda: weakened(CELLS, TWO, 1, ()))


class WrongInputs(Case):
    def test_tables_and_histories(self):
        for thing in NO_TABLES:
            self.raises(BadTable, thing, lambda: is_store(thing, None, None), lambda: result(thing, None, None, None),
                        lambda: store_against(thing, None), lambda: does_show(thing, None, None, None),
                        lambda: weakened(thing, None, None, None), lambda: store_against(history=(), table=thing))
        for thing in NO_HISTORIES:
            self.raises(BadHistory, thing, lambda: is_store(CELLS, thing, None),
                        lambda: result(CELLS, thing, None, None), lambda: store_against(CELLS, thing),
                        lambda: does_show(CELLS, thing, None, None), lambda: weakened(CELLS, thing, None, None),
                        lambda: store_against(history=thing, table=CELLS))

    def test_stores(self):
        for thing in [*plain_things(), *altered(THREE)]:
            if not tokens.is_store(CELLS, BARE, thing):
                self.raises(BadStore, thing, lambda: result(CELLS, BARE, thing, ()),
                            lambda: result(CELLS, BARE, thing, None),
                            lambda: result(word=None, store=thing, history=BARE, table=CELLS))


if __name__ == "__main__":
    unittest.main()
