"""The examples of DOC.md as they stand."""

import unittest

from yesifs.facts import are_facts, dropped_by, fate, fate_holds, judge_fate, kept_by, needed, open_by
from yesifs.tables import does_conflict, is_coarser, is_table


class Examples(unittest.TestCase):
    def test_tables(self):
        CELLS = (("add", "get"), (("add", "get"),))
        self.assertEqual(
            [is_table(CELLS), does_conflict(CELLS, "get", "add"), does_conflict(CELLS, "add", "add"),
             is_coarser(CELLS, (("add", "get"), ())), is_table((("get", "add"), ()))],
            [True, True, False, True, False])

    def test_facts(self):
        SOME = (("firm", 1, ()), ("firm", 2, (1,)), ("firm", 3, (2, 7)), ("dropped", 4), ("firm", 5, (4,)),
                ("firm", 8, (9,)), ("firm", 9, (8,)))
        self.assertEqual(
            [are_facts(SOME), kept_by(SOME), dropped_by(SOME), open_by(SOME), needed(SOME, 3), needed(SOME, 2)],
            [True, (1, 2), (4, 5, 8, 9), (3, 7), (7,), ()])
        self.assertEqual(
            [judge_fate(SOME, 2), judge_fate(SOME, 5), fate(SOME, 6), fate_holds(SOME, 8, ("dropped", (8, 9, 8))),
             fate_holds(SOME, 3, ("open", (("firm", 7, ()),), (("dropped", 7),)))],
            [('kept', (1, 2)), ('dropped', (5, 4)), 'open', True, True])


if __name__ == "__main__":
    unittest.main()
