"""Promises [5] and [6], and [1] and [2] as far as they speak of rings."""

import itertools
import unittest

from asklock.errors import NoAgent
from asklock.rings import chain, is_ring, least, rings
from asklock.tables import Table

from plain import Lines
from tellings import THIRTY_FIGURES, Reckoning, all_told, answer, deeds_of, table_after


def ring_of(agents, *ring):
    """A table in which each agent holds the lock of its number; those of the ring wait."""
    table = table_after(agents, 12, *[(agent, agent) for agent in range(agents)])
    add_ring(table, *ring)
    return table


def add_ring(table, *ring):
    for agent, after in zip(ring, ring[1:] + ring[:1]):
        table.ask(agent, after)


class Chains(unittest.TestCase):
    """[5]: chain."""

    def assert_chain(self, table, agent, expected):
        told = chain(table, agent)
        self.assertEqual(told, expected)
        self.assertEqual(type(told), list)

    def test_of_one_that_does_not_wait(self):
        self.assert_chain(Table(2, 2), 1, [1])
        self.assert_chain(table_after(2, 2, (0, 0), (1, 1)), 0, [0])

    def test_of_one_that_others_wait_for(self):
        table = table_after(3, 1, (1, 0), (0, 0), (2, 0))
        self.assert_chain(table, 1, [1])

    def test_to_one_that_does_not_wait(self):
        table = table_after(4, 3, (0, 0), (3, 1), (1, 2), (0, 1), (3, 2))
        self.assert_chain(table, 3, [3, 1])
        self.assert_chain(table, 0, [0, 3, 1])
        self.assert_chain(table, 1, [1])
        self.assert_chain(table, 2, [2])

    def test_behind_others_it_waits_for_the_holder(self):
        table = table_after(4, 1, (2, 0), (1, 0), (3, 0), (0, 0))
        for agent in (0, 1, 3):
            self.assert_chain(table, agent, [agent, 2])
        table.give(2, 0)
        for agent in (0, 3):
            self.assert_chain(table, agent, [agent, 1])
        self.assert_chain(table, 1, [1])

    def test_into_a_ring_that_it_is_not_in(self):
        table = ring_of(5, 1, 3)
        table.ask(4, 3)
        table.ask(0, 4)
        self.assert_chain(table, 4, [4, 3, 1])
        self.assert_chain(table, 0, [0, 4, 3, 1])

    def test_in_a_ring(self):
        table = ring_of(5, 0, 4, 2)
        self.assert_chain(table, 0, [0, 4, 2])
        self.assert_chain(table, 4, [4, 2, 0])
        self.assert_chain(table, 2, [2, 0, 4])
        self.assert_chain(table, 1, [1])

    def test_through_all_of_the_largest_table(self):
        self.assert_chain(ring_of(8, *range(8)), 5, [5, 6, 7, 0, 1, 2, 3, 4])

    def test_no_agent(self):
        table = ring_of(3, 0, 1)
        ahead = all_told(table)
        for agent in (3, 4, -1, -3, THIRTY_FIGURES, -THIRTY_FIGURES):
            with self.subTest(agent=agent):
                with self.assertRaises(NoAgent) as caught:
                    chain(table, agent)
                self.assertEqual(type(caught.exception), NoAgent)
        self.assertEqual(all_told(table), ahead)


class AllRings(unittest.TestCase):
    """[5]: rings."""

    def test_none(self):
        for table in (
            Table(1, 1), Table(8, 12), table_after(2, 2, (0, 0), (1, 1), (0, 1)),
            table_after(4, 3, (0, 0), (3, 1), (1, 2), (0, 1), (3, 2)),
        ):
            self.assertEqual(rings(table), [])

    def test_one_from_its_greatest_agent_on(self):
        self.assertEqual(rings(ring_of(2, 0, 1)), [(1, 0)])
        self.assertEqual(rings(ring_of(5, 0, 4, 2)), [(4, 2, 0)])
        self.assertEqual(rings(ring_of(5, 0, 2, 4)), [(4, 0, 2)])
        self.assertEqual(rings(ring_of(8, *range(8))), [(7, 0, 1, 2, 3, 4, 5, 6)])

    def test_one_with_others_that_lead_into_it(self):
        table = ring_of(6, 1, 3)
        table.ask(5, 3)
        table.ask(0, 5)
        table.ask(4, 1)
        self.assertEqual(rings(table), [(3, 1)])

    def test_two_by_rising_first_agents(self):
        for first, second in itertools.permutations(((0, 5), (4, 1, 2))):
            table = ring_of(6, *first)
            add_ring(table, *second)
            self.assertEqual(rings(table), [(4, 1, 2), (5, 0)])

    def test_four(self):
        table = ring_of(8, 0, 7)
        for ring in ((1, 6), (5, 2), (3, 4)):
            add_ring(table, *ring)
        self.assertEqual(rings(table), [(4, 3), (5, 2), (6, 1), (7, 0)])

    def test_one_that_was_is_none(self):
        table = ring_of(3, 0, 1, 2)
        table.leave(1)
        self.assertEqual(rings(table), [])

    def test_kinds(self):
        told = rings(ring_of(3, 0, 1, 2))
        self.assertEqual((type(told), type(told[0])), (list, tuple))

    def test_the_list_told_may_be_changed(self):
        table = ring_of(3, 0, 1, 2)
        ahead = all_told(table)
        told = rings(table)
        told.append((1, 0))
        told[0] = ()
        self.assertEqual(rings(table), [(2, 0, 1)])
        agents = chain(table, 0)
        agents.clear()
        self.assertEqual(chain(table, 0), [0, 1, 2])
        self.assertEqual(all_told(table), ahead)


class IsRing(unittest.TestCase):
    """[5]: is_ring."""

    def setUp(self):
        self.table = ring_of(8, 0, 5)
        add_ring(self.table, 4, 1, 2)
        self.table.ask(7, 5)

    def test_each_ring(self):
        for ring in ((4, 1, 2), (5, 0)):
            self.assertIs(is_ring(self.table, ring), True)

    def assert_none(self, *somes):
        for some in somes:
            with self.subTest(some=some):
                self.assertIs(is_ring(self.table, some), False)

    def test_turned_about_or_about_face(self):
        self.assert_none((0, 5), (1, 2, 4), (2, 4, 1), (4, 2, 1))

    def test_shortened_or_lengthened(self):
        self.assert_none((4, 1), (4, 2), (5,), (4, 1, 2, 4), (5, 0, 5), (4, 1, 2, 5, 0), (7, 5, 0))

    def test_the_empty_tuple_and_single_agents(self):
        self.assert_none((), *[(agent,) for agent in range(8)])
        self.assertIs(is_ring(Table(1, 1), ()), False)

    def test_one_twice(self):
        self.assert_none((5, 0, 5, 0), (5, 5, 0), (4, 1, 2, 4, 1, 2), (5, 5), (3, 3))

    def test_numbers_that_are_no_agents(self):
        self.assert_none(
            (-1,), (8,), (-3, 0), (5, -8), (-3, -8), (8, 0), (THIRTY_FIGURES, 0),
            (5, -THIRTY_FIGURES), (THIRTY_FIGURES,), (4, 1, 2, -1), (4, 1, THIRTY_FIGURES),
        )

    def test_a_ring_of_another_table(self):
        self.assertIs(is_ring(ring_of(8, 3, 6), (5, 0)), False)
        self.assert_none((6, 3))

    def test_every_tuple_of_up_to_four_agents(self):
        for many in range(5):
            for some in itertools.product(range(6), repeat=many):
                self.assertEqual(is_ring(self.table, some), some in ((4, 1, 2), (5, 0)))

    def test_a_ring_is_none_behind_a_leaving(self):
        self.table.leave(5)
        self.assert_none((5, 0))
        self.assertIs(is_ring(self.table, (4, 1, 2)), True)

    def test_nothing_is_changed(self):
        ahead = all_told(self.table)
        is_ring(self.table, (5, 0))
        is_ring(self.table, (9, 9))
        self.assertEqual(all_told(self.table), ahead)


class Least(unittest.TestCase):
    """[6]: least."""

    def weighed(self, *weights):
        """A table in which agent a holds its own lock and weights[a] - 1 other ones."""
        table = table_after(len(weights), 12, *[(at, at) for at in range(len(weights))])
        lock = len(weights)
        for agent, weight in enumerate(weights):
            for more in range(weight - 1):
                table.ask(agent, lock)
                lock += 1
        return table

    def test_without_rings(self):
        for table in (Table(1, 1), self.weighed(2, 1), table_after(2, 2, (0, 0), (1, 0))):
            self.assertEqual(least(table), (0, []))

    def test_of_different_weights_the_least(self):
        for weights, expected in (
            ((3, 2, 1), (1, [2])), ((1, 2, 3), (1, [0])), ((3, 2, 4), (2, [1])),
        ):
            table = self.weighed(*weights)
            add_ring(table, 0, 1, 2)
            self.assertEqual(least(table), expected)

    def test_of_equal_weights_the_least_number(self):
        for weights, expected in (
            ((1, 1, 1), (1, [0])), ((2, 1, 1), (1, [1])), ((2, 2, 3), (2, [0])),
            ((3, 2, 2), (2, [1])),
        ):
            for ring in ((0, 1, 2), (2, 1, 0)):
                table = self.weighed(*weights)
                add_ring(table, *ring)
                self.assertEqual(least(table), expected)

    def test_of_two_rings(self):
        table = self.weighed(2, 2, 1, 3, 2)
        add_ring(table, 4, 1)
        add_ring(table, 0, 3)
        self.assertEqual(least(table), (4, [0, 1]))

    def test_agents_rise_though_their_rings_do_not(self):
        table = self.weighed(2, 2, 1, 1)
        add_ring(table, 0, 3)
        add_ring(table, 1, 2)
        self.assertEqual(rings(table), [(2, 1), (3, 0)])
        self.assertEqual(least(table), (2, [2, 3]))
        table = self.weighed(1, 1, 1, 1)
        add_ring(table, 1, 2)
        add_ring(table, 3, 0)
        self.assertEqual(least(table), (2, [0, 1]))

    def test_those_outside_of_rings_are_not_weighed(self):
        table = self.weighed(1, 3, 2, 1)
        add_ring(table, 1, 2)
        table.ask(0, 1)
        self.assertEqual(least(table), (2, [2]))

    def test_it_is_the_least_of_all_that_leave_no_ring(self):
        for weights, ringed in (
            ((1, 1, 1), ((0, 1),)), ((3, 1, 2), ((0, 2),)), ((2, 1, 2, 2), ((3, 0), (2, 1))),
            ((1, 2, 2, 1, 2), ((3, 1, 0), (4, 2))), ((4, 3, 2), ((2, 1, 0),)),
        ):
            table, lines = self.weighed(*weights), Lines(len(weights), 12)
            lock = len(weights)
            for agent, weight in enumerate(weights):
                lines.ask(agent, agent)
                for more in range(weight - 1):
                    lines.ask(agent, lock)
                    lock += 1
            for ring in ringed:
                add_ring(table, *ring)
                add_ring(lines, *ring)
            self.assertEqual(all_told(table), lines.all_told())
            self.assertEqual(least(table), lines.least())

    def test_kinds(self):
        for table in (Table(1, 1), ring_of(2, 0, 1)):
            told = least(table)
            self.assertEqual([type(told), *map(type, told)], [tuple, int, list])

    def test_the_list_told_may_be_changed(self):
        table = ring_of(4, 0, 1)
        add_ring(table, 2, 3)
        ahead = all_told(table)
        least(table)[1].clear()
        least(table)[1].append(3)
        self.assertEqual(least(table), (2, [0, 2]))
        self.assertEqual(all_told(table), ahead)
        least(Table(1, 1))[1].append(0)
        self.assertEqual(least(Table(1, 1)), (0, []))


class Walks(unittest.TestCase):
    """[5], [6]: many tables, beside a plain telling."""

    def assert_alike(self, table, lines):
        self.assertEqual(rings(table), lines.rings())
        for agent in range(table.agents()):
            self.assertEqual(chain(table, agent), lines.chain(agent))
        for ring in lines.rings():
            self.assertIs(is_ring(table, ring), True)
            self.assertIs(is_ring(table, ring[1:] + ring[:1]), False)

    def walk(self, agents, locks, length, reckoning, met):
        table, lines = Table(agents, locks), Lines(agents, locks)
        deeds = deeds_of(agents, locks)
        asks = [deed for deed in deeds if deed[0] == "ask"]
        # Each agent holds something first, so that there is much to wait for.
        first = [("ask", lock % agents, lock) for lock in range(locks)]
        for at in range(length):
            deed = first[at] if at < locks else reckoning.one_of(asks * 9 + deeds)
            answer(table, deed)
            getattr(lines, deed[0])(*deed[1:])
            ahead = all_told(table)
            self.assertEqual(ahead, lines.all_told())
            self.assert_alike(table, lines)
            self.assertEqual(all_told(table), ahead)
        self.assertEqual(least(table), lines.least())
        many = len(rings(table))
        met[many] = met.get(many, 0) + 1

    def test_walks(self):
        reckoning, met = Reckoning(5), {}
        for agents, locks, length in ((2, 2, 8), (3, 4, 20), (5, 6, 40), (6, 6, 40)):
            for start in range(50):
                self.walk(agents, locks, length, reckoning, met)
        # So that the walks are known to have met tables of each kind.
        self.assertGreater(min(met.get(many, 0) for many in (0, 1, 2)), 4, met)


if __name__ == "__main__":
    unittest.main()
