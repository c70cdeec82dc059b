"""Benches and texts (part 13)."""

import unittest
from random import Random

from tests import making_stores as making
from tests.cases import Raising
from tests.test_logs import GET, SET
from tests.test_sending import NO_MANY
from tests.test_stores import DONE, FIRM, after, seen
from tests.test_views import BOTH
from tests.things import altered, plain_things
from yesifs.benches import Bench, read_text, store_after
from yesifs.errors import BadMany, BadOrder, BadOrders, BadText
from yesifs.stores import Store

LINES = ["sites 2", "start 1", "start 2", "start 4", "do 1 0 add x 5", "do 2 0 get x", "do 2 1 set y 2", "do 4 1 get y",
         "ask 2", "deliver ask 2 0 1", "deliver ask 2 1 1", "deliver vote 2 0 1", "deliver vote 2 1 -"]
# Every kind of order and of message.
MORE = (("deliver", ("tell", ("firm", 2, (1,)), 1)), ("wonder", 4), ("deliver", ("what", 4)), ("refuse", 4, 1),
        ("force", 1), ("ask", 4), ("deliver", ("ask", 4, 1, 1)), ("deliver", ("vote", 4, 1, None)),
        ("deliver", ("tell", ("dropped", 4), 1)), ("do", 1, 0, ("add", "abcdefghi", -10 ** 6)), ("give", 1),
        ("fall", 0, 5), ("amid", 0, 0), ("amid", 0, 1), ("up", 0))
MORE_LINES = ["deliver tell firm 2 1 1", "wonder 4", "deliver what 4", "refuse 4 1", "force 1", "ask 4",
              "deliver ask 4 1 1", "deliver vote 4 1 no", "deliver tell dropped 4 1", "do 1 0 add abcdefghi -1000000",
              "give 1", "fall 0 5", "amid 0 0", "amid 0 1", "up 0"]
# 4 votes on three conditions, and the keys are words of the texts.
WORDS = tuple([("start", t) for t in (1, 2, 10, 3)]
              + [("do", t, 1, ("add", "set", t)) for t in (1, 2, 10)]
              + [("do", 3, 1, ("get", "set")), ("do", 3, 0, ("set", "get", 0)), ("do", 3, 0, ("get", "no")),
                 ("do", 3, 0, ("add", "firm", -7)), ("do", 3, 0, ("get", "dropped")), ("ask", 3),
                 ("deliver", ("ask", 3, 1, 1)), ("deliver", ("ask", 3, 0, 4)),
                 ("deliver", ("vote", 3, 1, (1, 2, 10))), ("deliver", ("vote", 3, 0, ())),
                 ("deliver", ("tell", ("firm", 3, (1, 2, 10)), 0))])
WORD_LINES = ["start 1", "start 2", "start 10", "start 3", "do 1 1 add set 1", "do 2 1 add set 2", "do 10 1 add set 10",
              "do 3 1 get set", "do 3 0 set get 0", "do 3 0 get no", "do 3 0 add firm -7", "do 3 0 get dropped", "ask 3",
              "deliver ask 3 1 1", "deliver ask 3 0 4", "deliver vote 3 1 1,2,10", "deliver vote 3 0 -",
              "deliver tell firm 3 1,2,10 0"]


def text_of(*lines):
    return "\n".join(lines)


def bench_after(*orders, many=2):
    bench = Bench(many)
    for order in orders:
        bench.do(order)
    return bench


class Case(Raising):
    def is_at(self, bench, orders, many=2):
        """The store, the orders and the text of a bench are those of the orders."""
        self.assertEqual(bench.orders(), tuple(orders))
        self.assertEqual(bench.store(), after(*orders, many=many))
        self.assertEqual(read_text(bench.text()), (many, tuple(orders)))


class Stores(Case):
    def test_the_store_after_orders(self):
        for orders in ((), DONE, FIRM, BOTH, FIRM + MORE):
            self.assertEqual(store_after(2, orders), after(*orders))
            self.assertEqual(store_after(orders=orders, many=2), after(*orders))
        self.assertEqual(store_after(4, ()), Store(4))

    def test_wrong_numbers_of_sites(self):
        for thing in NO_MANY:
            self.raises(BadMany, thing, lambda: store_after(thing, ()), lambda: store_after(thing, None),
                        lambda: store_after(orders=[], many=thing), lambda: Bench(thing), lambda: Bench(many=thing))

    def test_no_tuple_of_orders(self):
        for thing in [[], [("start", 1)], {}, {("start", 1): 1}, None, 1, "start 1", True, Store(2), *[
                one for one in plain_things() if type(one) is not tuple]]:
            self.raises(BadOrders, thing, lambda: store_after(2, thing), lambda: store_after(orders=thing, many=2))

    def test_the_first_order_that_is_not_possible(self):
        for at in range(len(DONE) + 1):
            for order in (("give", 7), ("start", 1, 1), None, "ask", ["start", 9]):
                orders = DONE[:at] + (order,) + DONE[at:] + (("give", 8), None)
                self.raises(BadOrder, order, lambda: store_after(2, orders), lambda: store_after(orders=orders, many=2))
        self.raises(BadOrder, DONE[0], lambda: store_after(2, DONE + DONE))
        for thing in plain_things():
            if type(thing) is tuple and thing != ():
                self.raises(BadOrder, thing[0], lambda: store_after(2, thing))

    def test_orders_are_those_of_the_number_of_sites(self):
        self.assertEqual(store_after(3, (("start", 2), ("do", 2, 2, SET))).state(2)[0], (("do", 2, SET, 0),))
        order = ("do", 2, 2, SET)
        self.raises(BadOrder, order, lambda: store_after(2, (("start", 2), order)))


class Benches(Case):
    def test_new_benches(self):
        for many in (1, 2, 3, 4):
            for bench in (Bench(many), Bench(many=many)):
                self.assertEqual([bench.undo(), bench.redo(), bench.orders(), bench.text()],
                                 [False, False, (), f"sites {many}"])
                self.assertEqual(bench.store(), Store(many))

    def test_doing(self):
        bench = Bench(2)
        self.assertEqual([bench.do(order) for order in DONE], [None, None, None, 0, 5, 0, 2])
        self.is_at(bench, DONE)
        self.assertIs(bench.do(order=("ask", 2)), None)
        self.is_at(bench, DONE + (("ask", 2),))

    def test_undoing_and_redoing(self):
        bench = bench_after(*FIRM)
        for at in reversed(range(len(FIRM))):
            self.assertIs(bench.undo(), True)
            self.is_at(bench, FIRM[:at])
        for _ in range(2):
            self.assertIs(bench.undo(), False)
            self.is_at(bench, ())
        for at in range(len(FIRM)):
            self.assertIs(bench.redo(), True)
            self.is_at(bench, FIRM[:at + 1])
        for _ in range(2):
            self.assertIs(bench.redo(), False)
            self.is_at(bench, FIRM)

    def test_doing_clears_what_was_undone(self):
        bench = bench_after(*DONE)
        bench.undo()
        bench.undo()
        bench.do(("give", 1))
        self.assertIs(bench.redo(), False)
        self.is_at(bench, DONE[:-2] + (("give", 1),))

    def test_refused_orders_change_nothing(self):
        bench = bench_after(*DONE)
        bench.undo()
        for order in [("give", 7), DONE[0], ("do", 1, 0), None, "ask", [("ask", 1)], ("start", True), *plain_things()]:
            self.raises(BadOrder, order, lambda: bench.do(order), lambda: bench.do(order=order))
        self.is_at(bench, DONE[:-1])
        # What was undone can still be redone.
        self.assertIs(bench.redo(), True)
        self.is_at(bench, DONE)

    def test_a_store_that_a_bench_returned_goes_its_own_way(self):
        bench = bench_after(*FIRM)
        store = bench.store()
        store.close()
        store.do(("start", 9))
        self.is_at(bench, FIRM)
        self.assertNotEqual(bench.store(), store)
        bench.do(("start", 3))
        self.assertEqual(bench.undo(), True)
        self.is_at(bench, FIRM)
        self.assertIsNot(bench.store(), bench.store())

    def test_random_benches(self):
        random = Random(131)
        for n in range(60):
            many = random.randint(1, 4)
            bench, done, undone = Bench(many), [], []
            for _ in range(random.randint(1, 60)):
                word = random.choice(["do", "do", "do", "do", "undo", "redo", "bad"])
                order = making.possible_order(random, bench.store(), 4) if word == "do" else None
                if order is not None:
                    self.assertEqual(bench.do(order), after(*done, many=many).do(order))
                    done, undone = done + [order], []
                elif word == "undo":
                    self.assertIs(bench.undo(), done != [])
                    undone += done[-1:]
                    done = done[:-1]
                elif word == "redo":
                    self.assertIs(bench.redo(), undone != [])
                    done += undone[-1:]
                    undone = undone[:-1]
                else:
                    with self.assertRaises(BadOrder):
                        bench.do(("start", -1))
            self.is_at(bench, done, many)


class Texts(Case):
    def wrong(self, at, text):
        with self.assertRaises(BadText) as caught:
            read_text(text)
        self.assertEqual((caught.exception.at, type(caught.exception.at)), (at, int), text)
        with self.assertRaises(BadText):
            read_text(text=text)

    def test_texts(self):
        for orders, lines in ((FIRM, LINES), (FIRM + MORE, LINES + MORE_LINES), (WORDS, ["sites 2"] + WORD_LINES),
                              ((), ["sites 2"])):
            self.assertEqual(bench_after(*orders).text(), text_of(*lines))
            self.assertEqual(read_text(text_of(*lines)), (2, orders))
            self.assertEqual(read_text(text=text_of(*lines)), (2, orders))
            for at in range(len(lines)):
                self.assertEqual(read_text(text_of(*lines[:at + 1])), (2, orders[:at]))

    def test_the_number_of_sites(self):
        for many in (1, 2, 3, 4):
            self.assertEqual(read_text(f"sites {many}"), (many, ()))
        for line in ("sites 0", "sites 5", "sites -1", "sites 10", "sites 02", "sites", "sites ", "sites  2", " sites 2",
                     "sites 2 ", "sites 2 2", "Sites 2", "site 2", "sites two", "sites +2", "sites 2.0", "", " ", "2",
                     "start 1", "sites\t2", "sites 2\r"):
            self.wrong(1, line)
            self.wrong(1, line + "\nstart 1")

    def test_other_values_than_strings(self):
        for thing in [None, 1, 0, True, b"sites 2", ("sites 2",), ["sites 2"], {}, (2, ()), Store(2), Bench(2), *[
                one for one in plain_things() if type(one) is not str]]:
            self.wrong(0, thing)
        for thing in plain_things():
            if type(thing) is str:
                self.wrong(1, thing)

    def test_each_line_can_be_wrong(self):
        lines = LINES + MORE_LINES
        for at in range(1, len(lines)):
            for bad in ("", " ", "start", "start x", "start 1", "stop 1", lines[at] + " ", " " + lines[at], lines[at] + " 0",
                        lines[at].replace(" ", "  ", 1), lines[at].replace(" ", "\t", 1), lines[at].upper(),
                        lines[at].replace("1", "01"), lines[at].replace("0", "-0"), lines[at][:-1], lines[at] + "\r",
                        lines[at].replace(" ", "", 1), "do " + lines[at], "deliver " + lines[at]):
                before = (2, (FIRM + MORE)[:at - 1])
                if bad in lines:
                    continue
                try:
                    found = read_text(text_of(*lines[:at], bad))
                except BadText as error:
                    self.assertEqual(error.at, at + 1, bad)
                    self.wrong(at + 1, text_of(*lines[:at], bad, *lines[at:]))
                else:
                    # It happens to be another order that is possible.
                    self.assertEqual(bench_after(*found[1]).text(), text_of(*lines[:at], bad))
                    self.assertEqual((found[0], found[1][:-1]), before)

    def test_texts_that_are_cut(self):
        text = text_of(*LINES, *MORE_LINES)
        whole = {text_of(*(LINES + MORE_LINES)[:k]) for k in range(1, len(LINES + MORE_LINES) + 1)}
        for at in range(len(text)):
            try:
                many, orders = read_text(text[:at])
            except BadText as error:
                self.assertEqual(error.at, text[:at].count("\n") + 1)
                self.assertFalse(text[:at] in whole, text[:at])
            else:
                self.assertEqual(bench_after(*orders, many=many).text(), text[:at])

    def test_line_feeds(self):
        self.wrong(2, "sites 2\n")
        self.wrong(14, text_of(*LINES) + "\n")
        self.wrong(14, text_of(*LINES) + "\n\n")
        self.wrong(1, "\n" + text_of(*LINES))
        self.wrong(3, text_of(*LINES[:2], "", *LINES[2:]))
        self.wrong(1, "\n")

    def test_orders_that_are_not_possible(self):
        self.wrong(2, "sites 2\nask 1")
        self.wrong(3, "sites 2\nstart 1\nstart 1\nask 1")
        self.wrong(2, "sites 2\ndo 1 0 get x\nstart 1")
        self.wrong(3, "sites 2\nstart 1\ndo 1 2 get x")
        self.wrong(3, "sites 2\nstart 1\ndeliver what 1")
        self.assertEqual(read_text("sites 3\nstart 1\ndo 1 2 get x")[1][1], ("do", 1, 2, GET))

    def test_numbers(self):
        for bad in ("01", "-0", "+1", "1_0", "-1", "1.0", "", "x", "0x1", "True", "1 ", "--1", "-", "1,2", "1e3"):
            self.wrong(2, f"sites 2\nstart {bad}")
        for value in ("0", "-1", "1000000", "-1000000", "7"):
            self.assertEqual(read_text(f"sites 1\nstart 0\ndo 0 0 set x {value}")[1][1], ("do", 0, 0, ("set", "x", int(value))))
        for bad in ("-0", "00", "07", "-07", "+7", "7.0", "", "-", "no", "seven", "--7", "7-", "1_000"):
            self.wrong(3, f"sites 1\nstart 0\ndo 0 0 set x {bad}")
        self.assertEqual(read_text(f"sites 2\nstart {10 ** 39}"), (2, (("start", 10 ** 39),)))

    def test_conditions(self):
        begin = text_of("sites 2", *WORD_LINES[:15])
        self.assertEqual(read_text(begin + "\ndeliver vote 3 1 1,2,10")[1][-1][1], ("vote", 3, 1, (1, 2, 10)))
        for bad in ("", "1,2", "1,10,2", "1, 2, 10", "1,2,10,", ",1,2,10", "1,,2,10", "01,2,10", "1,2,1_0", "(1,2,10)", "-", "no",
                    "1 2 10", "1,2,10 ", "1,2,ten", "1,2,-10", "No", "None", "()"):
            self.wrong(17, begin + "\ndeliver vote 3 1 " + bad)
        for bad in ("deliver vote 3 1", "deliver vote 3 1,2,10", "deliver vote 3", "deliver vote", "deliver",
                    "deliver tell firm 3 1,2,10 0", "deliver tell", "deliver tell 0", "deliver tell firm 0",
                    "deliver tell dropped 3 0", "deliver ask 3 1", "deliver what", "deliver what 3 3"):
            self.wrong(17, begin + "\n" + bad)

    def test_facts(self):
        begin = text_of("sites 2", *WORD_LINES[:17])
        self.assertEqual(read_text(begin + "\ndeliver tell firm 3 1,2,10 0")[1][-1],
                         ("deliver", ("tell", ("firm", 3, (1, 2, 10)), 0)))
        for bad in ("firm 3 1,2,10", "firm 3 - 0", "firm 3 no 0", "firm 3 0", "dropped 3 0", "dropped 3 1,2,10 0",
                    "firm 3 1,2,10 1", "firm 3 1,2,10 -0", "firm 3 1,2,10 0 0", "(firm 3 1,2,10) 0", "Firm 3 1,2,10 0",
                    "firm 03 1,2,10 0", "3 1,2,10 0", "firm 3 1,10,2 0"):
            self.wrong(19, begin + "\ndeliver tell " + bad)

    def test_operations(self):
        begin = "sites 2\nstart 1\n"
        for good in ("get x", "get abcdefghi", "set x 1", "add x -1", "get get", "set set 0", "add no 5", "get sites"):
            self.assertEqual(read_text(begin + "do 1 0 " + good)[0], 2)
        for bad in ("get", "get x 1", "set x", "add x", "put x 1", "x", "", "get X", "get x1", "get abcdefghij", "get -",
                    "set 1 x", "add x 1 2", "get x,y", "get 5", "set x no", "add x -", "set x 1,2"):
            self.wrong(3, begin + "do 1 0 " + bad)

    def test_random_texts(self):
        random = Random(132)
        for n in range(120):
            many = random.randint(1, 4)
            orders = tuple(making.lead(random, Store(many), random.randint(0, 80), 12, ("x", "no", "firm")))
            text = bench_after(*orders, many=many).text()
            self.assertEqual(read_text(text), (many, orders))
            self.assertEqual(len(text.split("\n")), len(orders) + 1)
            self.assertEqual(seen(store_after(*read_text(text))), seen(after(*orders, many=many)))

    def test_altered_texts(self):
        # Whatever is read gives the same text again.
        random = Random(133)
        text = text_of(*LINES, *MORE_LINES)
        for n in range(1500):
            at = random.randrange(len(text))
            thing = text[:at] + random.choice(["", " ", "0", "1", "-", ",", "\n", "a", "  ", "no"]) + text[at + random.randint(0, 2):]
            try:
                many, orders = read_text(thing)
            except BadText as error:
                self.assertTrue(1 <= error.at <= thing.count("\n") + 1)
                lines = thing.split("\n")[:error.at - 1]
                if lines:
                    read_text("\n".join(lines))
            else:
                self.assertEqual(bench_after(*orders, many=many).text(), thing)

    def test_altered_orders(self):
        for order in FIRM[-4:]:
            for thing in altered(order):
                store = store_after(2, FIRM[:8])
                if store.is_possible(thing):
                    self.assertEqual(read_text(bench_after(*FIRM[:8], thing).text()), (2, FIRM[:8] + (thing,)))


if __name__ == "__main__":
    unittest.main()
