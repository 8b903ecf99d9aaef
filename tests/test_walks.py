"""Promises [2], [3] and [4]: many deeds in turn, beside a plain telling of them.

The plain telling keeps one line of agents for each lock: the one that holds it,
then those that wait for it, so that it shares nothing with the table's own way.
"""

import copy
import unittest

from asklock.errors import Holds, LockError, NotHeld, Waits
from asklock.tables import Table

from tellings import all_told


class Lines:
    def __init__(self, agents, locks):
        self.lines = [[] for lock in range(locks)]
        self.waitings = [0] * agents
        self.holdings = [0] * locks

    def waits(self, agent):
        for lock, line in enumerate(self.lines):
            if agent in line[1:]:
                return lock
        return None

    def held(self, agent):
        return [lock for lock, line in enumerate(self.lines) if line[:1] == [agent]]

    def ask(self, agent, lock):
        if self.waits(agent) is not None:
            return Waits
        if lock in self.held(agent):
            return Holds
        self.lines[lock].append(agent)
        if self.lines[lock] == [agent]:
            self.holdings[lock] += 1
            return True
        self.waitings[agent] += 1
        return False

    def give(self, agent, lock):
        if self.waits(agent) is not None:
            return Waits
        if lock not in self.held(agent):
            return NotHeld
        del self.lines[lock][0]
        if not self.lines[lock]:
            return None
        self.holdings[lock] += 1
        return self.lines[lock][0]

    def leave(self, agent):
        waited_for = self.waits(agent)
        if waited_for is not None:
            self.lines[waited_for].remove(agent)
        return [(lock, self.give(agent, lock)) for lock in self.held(agent)]

    def all_told(self):
        of_agents = [
            (self.waits(agent), self.held(agent), waiting)
            for agent, waiting in enumerate(self.waitings)
        ]
        of_locks = [
            (line[0] if line else None, line[1:], holding)
            for line, holding in zip(self.lines, self.holdings)
        ]
        return (len(self.waitings), len(self.lines), of_agents, of_locks)


def deeds_of(agents, locks):
    deeds = [("leave", agent) for agent in range(agents)]
    for word in ("ask", "give"):
        deeds += [(word, agent, lock) for agent in range(agents) for lock in range(locks)]
    return deeds


def answer(table, deed):
    try:
        return getattr(table, deed[0])(*deed[1:])
    except LockError as refusal:
        return type(refusal)


class Walks(unittest.TestCase):
    def step(self, table, lines, deed, path):
        self.assertEqual(answer(table, deed), getattr(lines, deed[0])(*deed[1:]), path)
        self.assertEqual(all_told(table), lines.all_told(), path)

    def walk_all(self, table, lines, deeds, path, left):
        if left == 0:
            return
        for deed in deeds:
            here, there = copy.deepcopy((table, lines))
            self.step(here, there, deed, path + (deed,))
            self.walk_all(here, there, deeds, path + (deed,), left - 1)

    def test_all_short_walks_over_small_tables(self):
        for agents, locks, length in ((1, 1, 6), (1, 2, 4), (2, 1, 5), (2, 2, 4), (3, 2, 3)):
            with self.subTest(agents=agents, locks=locks):
                table, lines = Table(agents, locks), Lines(agents, locks)
                self.walk_all(table, lines, deeds_of(agents, locks), (), length)

    def test_long_walks(self):
        for agents, locks, length in ((2, 2, 2000), (3, 5, 4000), (8, 3, 4000), (8, 12, 8000)):
            deeds = deeds_of(agents, locks)
            table, lines = Table(agents, locks), Lines(agents, locks)
            number = 1
            for at in range(length):
                # A plain rule of sums stands for chance, so that each run is alike.
                number = (number * 6364136223846793005 + 1442695040888963407) & (2 ** 64 - 1)
                deed = deeds[(number >> 33) % len(deeds)]
                self.step(table, lines, deed, (agents, locks, at, deed))


if __name__ == "__main__":
    unittest.main()
