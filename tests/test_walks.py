"""Promises [2], [3] and [4]: many deeds in turn, beside a plain telling of them."""

import copy
import unittest

from asklock.tables import Table

from plain import Lines
from tellings import Reckoning, all_told, answer, deeds_of


class Walks(unittest.TestCase):
    def step(self, table, lines, deed, path):
        self.assertEqual(answer(table, deed), getattr(lines, deed[0])(*deed[1:]), path)
        self.assertEqual(all_told(table), lines.all_told(), path)

    def walk_all(self, table, lines, deeds, path, left):
        if left == 0:
            return
        for deed in deeds:
            here, there = copy.deepcopy((table, lines))
            self.step(here, there, deed, path + (deed,))
            self.walk_all(here, there, deeds, path + (deed,), left - 1)

    def test_all_short_walks_over_small_tables(self):
        for agents, locks, length in ((1, 1, 6), (1, 2, 4), (2, 1, 5), (2, 2, 4), (3, 2, 3)):
            with self.subTest(agents=agents, locks=locks):
                table, lines = Table(agents, locks), Lines(agents, locks)
                self.walk_all(table, lines, deeds_of(agents, locks), (), length)

    def test_long_walks(self):
        for agents, locks, length in ((2, 2, 2000), (3, 5, 4000), (8, 3, 4000), (8, 12, 8000)):
            deeds = deeds_of(agents, locks)
            table, lines = Table(agents, locks), Lines(agents, locks)
            reckoning = Reckoning(1)
            for at in range(length):
                deed = reckoning.one_of(deeds)
                self.step(table, lines, deed, (agents, locks, at, deed))


if __name__ == "__main__":
    unittest.main()
