"""Promise [12], and [7] to [11] beside a plain telling: many deeds in turn."""

import copy
import unittest

from asklock.halls import Hall
from asklock.rings import is_ring, rings

from hall_deeds import SIZES, drawn, first_of
from plain import PlainHall
from tellings import Reckoning, all_of, answer, until


def agents_of(path):
    return tuple(agent for agent, wait, weight in path)


def path_of_ring(table, ring):
    return tuple((agent, table.wait_number(agent), len(table.held(agent))) for agent in ring)


class BesidePlainTelling(unittest.TestCase):
    """[7] to [11]: all that a hall answers and tells."""

    def step(self, hall, plain, deed, path):
        told = getattr(plain, deed[0])(*deed[1:])
        self.assertEqual(answer(hall, deed), told, path)
        self.assertEqual(all_of(hall), plain.all_of(), path)

    def walk(self, size, length, reckoning):
        hall, plain = Hall(*size), PlainHall(*size)
        for deed in first_of(size):
            self.step(hall, plain, deed, (size, deed))
        for at in range(length):
            deed = drawn(reckoning, size, len(plain.letters), at)
            self.step(hall, plain, deed, (size, at, deed))
        return len(plain.tellings), len(plain.breakings)

    def test_long_walks(self):
        for size in SIZES:
            reckoning, told, broken = Reckoning(sum(size)), 0, 0
            for length in [100] * 40 + [1500]:
                met = self.walk(size, length, reckoning)
                told, broken = told + met[0], broken + met[1]
            # So that the walks are known to have met rings.
            self.assertGreater(min(told, broken), 10, size)

    def walk_all(self, hall, plain, path, left):
        if left == 0:
            return
        deeds = [("again",), ("stop", 0), ("rise", 0), ("stop", 1)]
        deeds += [(word, agent, lock) for word in ("ask", "give")
                  for agent in range(2) for lock in range(2)]
        deeds += [(word, number) for word in ("carry", "lose", "double")
                  for number in range(min(len(plain.letters), 2) + 1)]
        for deed in deeds:
            here, there = copy.deepcopy((hall, plain))
            self.step(here, there, deed, path + (deed,))
            self.walk_all(here, there, path + (deed,), left - 1)

    def test_all_short_walks_on_the_way_round_a_ring(self):
        hall, plain = Hall(2, 2, 2), PlainHall(2, 2, 2)
        deeds = [("ask", 0, 0), ("ask", 1, 1), ("ask", 0, 1), ("ask", 1, 0)] + [("carry", 0)] * 11
        for at, deed in enumerate(deeds):
            self.step(hall, plain, deed, (at, deed))
            here, there = copy.deepcopy((hall, plain))
            self.walk_all(here, there, (at, deed), 2)
        self.assertEqual(plain.breakings, [(0, 1)])


class WhateverWasDone(unittest.TestCase):
    """[12]."""

    def do(self, hall, deed):
        """Do the deed; hold what it told and broke against the table ahead of it."""
        ahead = hall.table()
        many_told, many_broken = len(hall.told()), len(hall.broken())
        answer(hall, deed)
        told, broken = hall.told(), hall.broken()
        if deed[0] != "carry":
            self.assertEqual((len(told), len(broken)), (many_told, many_broken))
        for path, agent in told[many_told:]:
            self.assertIs(is_ring(hall.table(), agents_of(path)), True)
            self.assertEqual(path, path_of_ring(hall.table(), agents_of(path)))
            self.assertIn(agent, agents_of(path))
        for agent, wait in broken[many_broken:]:
            self.assertEqual(ahead.wait_number(agent), wait)
            ring = [ring for ring in rings(ahead) if agent in ring]
            self.assertEqual(len(ring), 1)
            self.assertIn((path_of_ring(ahead, ring[0]), agent), told)
        self.assertEqual(len({path for path, agent in told}), len(told))
        self.assertEqual(len(set(broken)), len(broken))

    def raise_all(self, hall, houses):
        for house in range(houses):
            answer(hall, ("rise", house))

    def end(self, hall, houses):
        """All houses up, again, and the first letter carried until there is none."""
        self.raise_all(hall, houses)
        table = hall.table()
        standing = [path_of_ring(table, ring) for ring in rings(table)]
        many_broken = len(hall.broken())
        self.do(hall, ("again",))
        for turn in until(lambda: not hall.road()):
            self.do(hall, ("carry", 0))
        self.assertEqual(rings(hall.table()), [])
        broken = hall.broken()[many_broken:]
        self.assertEqual(len(broken), len(standing))
        for path in standing:
            self.assertIn(path, [ring for ring, agent in hall.told()])
            of_path = [(agent, wait) for agent, wait, weight in path]
            self.assertEqual(len([one for one in broken if one in of_path]), 1)
        return len(standing)

    def test_many_deeds_and_then_the_end(self):
        for size in SIZES:
            reckoning, met = Reckoning(7), {}
            for start in range(40):
                hall = Hall(*size)
                for deed in first_of(size):
                    self.do(hall, deed)
                for at in range(20 + 4 * start):
                    self.do(hall, drawn(reckoning, size, len(hall.road()), at))
                many = self.end(hall, size[2])
                met[many] = met.get(many, 0) + 1
            # So that the ends are known to have met rings.
            self.assertGreater(met.get(1, 0) + met.get(2, 0), 5, (size, met))

    def test_ends_in_turn_in_one_hall(self):
        for size in SIZES:
            reckoning, hall, standing = Reckoning(11), Hall(*size), 0
            for start in range(60):
                for at in range(30):
                    self.do(hall, drawn(reckoning, size, len(hall.road()), at))
                standing += self.end(hall, size[2])
            self.assertGreater(standing, 5, size)

    def test_the_end_of_two_rings_and_of_late_and_doubled_letters(self):
        hall = Hall(5, 5, 3)
        for at in range(5):
            self.do(hall, ("ask", at, at))
        for agent, lock in ((0, 3), (3, 0), (1, 2), (2, 4), (4, 1)):
            self.do(hall, ("ask", agent, lock))
        for at in range(6):
            self.do(hall, ("double", at))
            self.do(hall, ("carry", 3))
        self.assertEqual(self.end(hall, 3), 2)
        self.assertEqual(sorted(hall.broken()), [(0, 1), (1, 1)])

    def test_a_stopped_house_hinders_and_the_end_comes_behind_its_rising(self):
        hall = Hall(3, 3, 3)
        for agent, lock in ((0, 0), (1, 1), (2, 2), (0, 1), (1, 2), (2, 0)):
            self.do(hall, ("ask", agent, lock))
        self.do(hall, ("stop", 1))
        self.do(hall, ("again",))
        for turn in until(lambda: not hall.road()):
            self.do(hall, ("carry", 0))
        self.assertEqual((hall.told(), hall.broken()), ([], []))
        self.assertEqual(self.end(hall, 3), 1)

    def test_a_ring_whose_break_letter_was_lost(self):
        hall = Hall(2, 2, 2)
        for agent, lock in ((0, 0), (1, 1), (0, 1), (1, 0)):
            self.do(hall, ("ask", agent, lock))
        for turn in until(hall.told):
            self.do(hall, ("carry", 0))
        self.do(hall, ("lose", len(hall.road()) - 1))
        self.assertEqual(self.end(hall, 2), 1)
        self.assertEqual(len(hall.told()), 1)


if __name__ == "__main__":
    unittest.main()
