import unittest
from itertools import combinations_with_replacement

from tests.things import CELLS, altered, plain_things
from yesifs.errors import BadKind, BadTable
from yesifs.tables import does_conflict, is_coarser, is_table

EMPTY = ((), ())
SELF = (("a", "b"), (("a", "a"),))
LETTERS = "abcdefghijklmnopqrstuvwxyz"
MANY = tuple(sorted([letter for letter in LETTERS] + ["k" + letter for letter in LETTERS[:10]]))
FULL = (MANY, tuple(combinations_with_replacement(MANY, 2)))

NO_TABLES = [
    (["add", "get"], ()), (("add", "get"), []), [("add", "get"), ()], (("add",), (["add", "add"],)),
    (("add", "get"),), (("add", "get"), (), ()), ((), (), ()), (), ("add", "get"), ("ab", ()), ("", ""),
    (("get", "add"), ()), (("add", "add"), ()), (("add", "get", "get"), ()),
    (("add", "get"), (("get", "add"),)), (("add", "get"), (("add", "get"), ("get", "add"))),
    (("add", "get"), (("get", "get"), ("add", "get"))), (("add", "get"), (("add", "get"), ("add", "get"))),
    (("add", "get"), (("add", "set"),)), (("add", "get"), (("aaa", "get"),)), ((), (("add", "get"),)),
    (("add", "get"), ("add", "get")), (("add", "get"), (("add",),)), (("add", "get"), (("add", "get", "get"),)),
    (("add", "get"), ((),)), (("add", "get"), (("add", 1),)), (("add", "get"), ((True, "get"),)),
    (("add", "get"), ((["add"], "get"),)), ((1, 2), ()), ((1, 2), ((1, 2),)), ((True,), ()), ((None,), ()),
    (("add", 1), ()), ((1, "add"), ()), ((("add",),), ()), (([],), ()), ({"add": 1}, ()), (("add",), {}),
    (("add",), None), (None, ()), (("add",), True),
]
NO_NAMES = ["", "abcdefghijk", "a" * 11, "A", "Add", "a1", "1", "a b", " a", "a ", "a\n", "\n", "a_b", "a-b", "`",
            "{", "\u00e4", "\u03b1", "\u00df", "a\u0301", "~"]


class IsTable(unittest.TestCase):
    def test_tables(self):
        for table in [EMPTY, CELLS, SELF, (("a",), ()), (("a",), (("a", "a"),)), (("add", "get"), ()),
                      (("add", "get", "set"), (("add", "get"), ("add", "set"), ("get", "set"), ("set", "set")))]:
            with self.subTest(table=table):
                self.assertIs(is_table(table), True)
                self.assertIs(is_table(thing=table), True)

    def test_thirty_six_kinds_with_all_conflicts(self):
        self.assertEqual((len(FULL[0]), len(FULL[1])), (36, 666))
        self.assertIs(is_table(FULL), True)
        self.assertIs(is_table((FULL[0], FULL[1][::-1])), False)

    def test_somewhat_more_kinds_are_no_error(self):
        kinds = tuple(sorted(MANY + ("m" + "n" * 9, "zz", "zzz", "zzzz")))
        self.assertIs(is_table((kinds, (("zz", "zzz"),))), True)
        self.assertIs(does_conflict((kinds, (("zz", "zzz"),)), "zzz", "zz"), True)

    def test_names_of_one_and_of_ten_letters(self):
        for name in ["a", "z", "q", "abcdefghij", "z" * 10, "mz"]:
            self.assertIs(is_table(((name,), ())), True, name)

    def test_strings_that_are_no_names(self):
        for name in NO_NAMES:
            self.assertIs(is_table(((name,), ())), False, name)

    def test_values_that_are_no_tables(self):
        for thing in NO_TABLES + [thing for thing in plain_things() if thing != EMPTY]:
            with self.subTest(thing=thing):
                self.assertIs(is_table(thing), False)

    def test_altered_tables(self):
        self.assertEqual(len(list(altered(CELLS))) > 50, True)
        good = {thing for thing in altered(CELLS) if is_table(thing)}
        self.assertEqual(good, {CELLS, (("add", "get"), ())})
        good = {thing for thing in altered((("add", "get"), ())) if is_table(thing)}
        self.assertEqual(good, {(("add", "get"), ()), (("get",), ()), (("add",), ()), (("adda", "get"), ()),
                                (("ad", "get"), ()), (("add", "geta"), ()), (("add", "ge"), ())})


class DoesConflict(unittest.TestCase):
    def test_in_either_order(self):
        table = (("add", "get", "set"), (("add", "get"), ("get", "set"), ("set", "set")))
        expected = {("add", "get"), ("get", "add"), ("get", "set"), ("set", "get"), ("set", "set")}
        for one in table[0]:
            for other in table[0]:
                self.assertIs(does_conflict(table, one, other), (one, other) in expected, (one, other))

    def test_a_kind_with_itself(self):
        self.assertIs(does_conflict(SELF, "a", "a"), True)
        self.assertIs(does_conflict(SELF, "b", "b"), False)
        self.assertIs(does_conflict(SELF, "a", "b"), False)

    def test_by_name(self):
        self.assertIs(does_conflict(table=CELLS, one="get", other="add"), True)
        self.assertIs(does_conflict(other="get", one="get", table=CELLS), False)

    def test_thirty_six_kinds(self):
        self.assertIs(does_conflict(FULL, "z", "a"), True)
        self.assertIs(does_conflict((MANY, FULL[1][:-1]), "z", "z"), False)

    def test_no_table(self):
        for thing in NO_TABLES + [thing for thing in plain_things() if thing != EMPTY]:
            for call in [lambda: does_conflict(thing, "add", "get"), lambda: does_conflict(thing, [], {}),
                         lambda: does_conflict(other=1, one=2, table=thing)]:
                with self.subTest(thing=thing), self.assertRaises(BadTable) as caught:
                    call()
                self.assertIs(caught.exception.thing, thing)

    def test_no_kind(self):
        for thing in ["set", "ad", "", 1, True, None, [], {}, ("add",), ["add"], ("add", "get"), *plain_things()]:
            for call in [lambda: does_conflict(CELLS, thing, "add"), lambda: does_conflict(CELLS, "add", thing),
                         lambda: does_conflict(CELLS, thing, "other"), lambda: does_conflict(EMPTY, thing, "add"),
                         lambda: does_conflict(table=CELLS, other="a", one=thing)]:
                with self.subTest(thing=thing), self.assertRaises(BadKind) as caught:
                    call()
                self.assertIs(caught.exception.thing, thing)


class IsCoarser(unittest.TestCase):
    def test_more_conflicts(self):
        kinds = ("a", "b", "c")
        pairs = (("a", "a"), ("a", "b"), ("b", "c"))
        self.assertIs(is_coarser((kinds, pairs), (kinds, pairs)), True)
        self.assertIs(is_coarser((kinds, pairs), (kinds, ())), True)
        self.assertIs(is_coarser((kinds, ()), (kinds, pairs)), False)
        for at in range(3):
            self.assertIs(is_coarser((kinds, pairs), (kinds, pairs[:at] + pairs[at + 1:])), True)
            self.assertIs(is_coarser((kinds, pairs[:at] + pairs[at + 1:]), (kinds, pairs)), False)
            self.assertIs(is_coarser((kinds, pairs[:at]), (kinds, pairs[at:at + 1])), False)

    def test_other_kinds(self):
        self.assertIs(is_coarser((("a", "b"), ()), (("a",), ())), False)
        self.assertIs(is_coarser((("a",), ()), (("a", "b"), ())), False)
        self.assertIs(is_coarser((("a", "b", "c"), (("a", "b"),)), (("a", "b"), (("a", "b"),))), False)

    def test_the_empty_table(self):
        self.assertIs(is_coarser(EMPTY, EMPTY), True)
        self.assertIs(is_coarser(table=CELLS, other=EMPTY), False)
        self.assertIs(is_coarser(other=(("add", "get"), ()), table=CELLS), True)

    def test_thirty_six_kinds(self):
        self.assertIs(is_coarser(FULL, (MANY, FULL[1][:400])), True)
        self.assertIs(is_coarser((MANY, FULL[1][:-1]), FULL), False)

    def test_no_tables(self):
        for thing in NO_TABLES + [thing for thing in plain_things() if thing != EMPTY]:
            for call in [lambda: is_coarser(thing, CELLS), lambda: is_coarser(CELLS, thing),
                         lambda: is_coarser(thing, ["another"]), lambda: is_coarser(other=None, table=thing)]:
                with self.subTest(thing=thing), self.assertRaises(BadTable) as caught:
                    call()
                self.assertIs(caught.exception.thing, thing)


if __name__ == "__main__":
    unittest.main()
