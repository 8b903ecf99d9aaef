"""Promises [2], [3] and [4], and [1] as far as it speaks of tables."""

import unittest

from asklock.errors import Holds, NoAgent, NoLock, NoTable, NotHeld, Waits
from asklock.tables import Table

from tellings import THIRTY_FIGURES, TableCase, all_told, table_after

OF_AN_AGENT = ("leave", "waits", "held", "wait_number")
OF_A_LOCK = ("holder", "queue", "hold_number")
OF_BOTH = ("ask", "give")


class Counts(TableCase):
    """[2]: 1 to 8 agents, 1 to 12 locks, all free at first."""

    def assert_new(self, agents, locks):
        expected = (agents, locks, [(None, [], 0)] * agents, [(None, [], 0)] * locks)
        self.assertEqual(all_told(Table(agents, locks)), expected)

    def test_each_count_within_the_limits_makes_a_new_table(self):
        for agents in range(1, 9):
            for locks in range(1, 13):
                with self.subTest(agents=agents, locks=locks):
                    self.assert_new(agents, locks)

    def test_other_counts_of_agents_are_refused(self):
        for agents in (0, 9, 10, 12, 13, -1, -8, THIRTY_FIGURES, -THIRTY_FIGURES):
            for locks in (1, 12):
                with self.subTest(agents=agents, locks=locks), self.assertRaises(NoTable):
                    Table(agents, locks)

    def test_other_counts_of_locks_are_refused(self):
        for locks in (0, 13, 14, -1, -12, THIRTY_FIGURES, -THIRTY_FIGURES):
            for agents in (1, 8):
                with self.subTest(agents=agents, locks=locks), self.assertRaises(NoTable):
                    Table(agents, locks)

    def test_both_counts_wrong_are_refused(self):
        for agents, locks in ((0, 0), (9, 13), (-1, -1), (THIRTY_FIGURES, THIRTY_FIGURES)):
            with self.subTest(agents=agents, locks=locks), self.assertRaises(NoTable):
                Table(agents, locks)

    def test_each_agent_and_each_lock_of_the_largest_table_can_be_used(self):
        table = Table(8, 12)
        for lock in range(12):
            self.assertTrue(table.ask(lock % 8, lock))
        self.assertEqual([table.held(agent) for agent in (0, 3, 4, 7)], [[0, 8], [3, 11], [4], [7]])

    def test_tables_share_nothing(self):
        first, second = Table(2, 2), Table(2, 2)
        first.ask(0, 0)
        first.ask(1, 0)
        self.assertEqual(all_told(second), all_told(Table(2, 2)))


class UnknownNumbers(TableCase):
    """[2]: agents and locks that there aren't, handed to each method."""

    def setUp(self):
        self.table = table_after(3, 4, (0, 0), (1, 0), (2, 3))
        self.no_agents = (3, 4, -1, -3, THIRTY_FIGURES, -THIRTY_FIGURES)
        self.no_locks = (4, 5, -1, -4, THIRTY_FIGURES, -THIRTY_FIGURES)

    def test_no_agent(self):
        for deed in OF_AN_AGENT:
            for agent in self.no_agents:
                with self.subTest(deed, agent=agent):
                    self.assert_refused(NoAgent, self.table, deed, agent)

    def test_no_lock(self):
        for deed in OF_A_LOCK:
            for lock in self.no_locks:
                with self.subTest(deed, lock=lock):
                    self.assert_refused(NoLock, self.table, deed, lock)

    def test_ask_and_give_by_no_agent(self):
        for deed in OF_BOTH:
            for agent in self.no_agents:
                for lock in range(4):
                    with self.subTest(deed, agent=agent, lock=lock):
                        self.assert_refused(NoAgent, self.table, deed, agent, lock)

    def test_ask_for_and_give_no_lock(self):
        for deed in OF_BOTH:
            for lock in self.no_locks:
                with self.subTest(deed, lock=lock):
                    self.assert_refused(NoLock, self.table, deed, 2, lock)

    def test_no_agent_goes_ahead_of_no_lock(self):
        for deed in OF_BOTH:
            for agent in self.no_agents:
                for lock in self.no_locks:
                    with self.subTest(deed, agent=agent, lock=lock):
                        self.assert_refused(NoAgent, self.table, deed, agent, lock)

    def test_no_lock_goes_ahead_of_waits(self):
        for deed in OF_BOTH:
            for lock in self.no_locks:
                with self.subTest(deed, lock=lock):
                    self.assert_refused(NoLock, self.table, deed, 1, lock)

    def test_each_table_refuses_by_its_own_counts(self):
        for count in range(1, 9):
            with self.subTest(count=count):
                table = Table(count, count)
                self.assertIs(table.ask(count - 1, count - 1), True)
                self.assert_refused(NoAgent, table, "ask", count, count - 1)
                self.assert_refused(NoLock, table, "ask", count - 1, count)


class Asking(TableCase):
    """[3]: ask."""

    def test_a_free_lock_is_held(self):
        table = Table(3, 3)
        self.assertIs(table.ask(1, 2), True)
        self.assertEqual(
            all_told(table),
            (3, 3, [(None, [], 0), (None, [2], 0), (None, [], 0)],
             [(None, [], 0), (None, [], 0), (1, [], 1)]),
        )

    def test_a_held_lock_is_waited_for(self):
        table = table_after(2, 2, (1, 0))
        self.assertIs(table.ask(0, 0), False)
        self.assertEqual(
            all_told(table),
            (2, 2, [(0, [], 1), (None, [0], 0)], [(1, [0], 1), (None, [], 0)]),
        )

    def test_who_asks_later_waits_behind(self):
        table = table_after(6, 1, (3, 0))
        for place, agent in enumerate((4, 0, 5, 2, 1)):
            self.assertIs(table.ask(agent, 0), False)
            self.assertEqual(table.queue(0), [4, 0, 5, 2, 1][:place + 1])
        self.assertEqual(table.holder(0), 3)
        self.assertEqual([table.waits(agent) for agent in range(6)], [0, 0, 0, None, 0, 0])

    def test_an_agent_holds_several_locks_told_rising(self):
        table = table_after(1, 12, (0, 7), (0, 11), (0, 0), (0, 3))
        self.assertEqual(table.held(0), [0, 3, 7, 11])

    def test_an_agent_that_holds_may_wait_for_another(self):
        table = table_after(2, 3, (0, 0), (0, 2), (1, 1))
        self.assertIs(table.ask(0, 1), False)
        self.assertEqual((table.waits(0), table.held(0)), (1, [0, 2]))

    def test_queues_of_several_locks_are_apart(self):
        table = table_after(5, 2, (0, 0), (1, 1), (4, 1), (2, 0), (3, 1))
        self.assertEqual((table.queue(0), table.queue(1)), ([2], [4, 3]))

    def test_agents_may_wait_in_a_ring(self):
        table = table_after(2, 2, (0, 0), (1, 1), (0, 1))
        self.assertIs(table.ask(1, 0), False)
        self.assertEqual((table.waits(0), table.waits(1)), (1, 0))

    def test_one_that_waits_is_refused(self):
        table = table_after(3, 4, (0, 0), (1, 1), (1, 0))
        for lock, kind in ((0, "the one waited for"), (2, "a free one"), (3, "another free one")):
            with self.subTest(kind):
                self.assert_refused(Waits, table, "ask", 1, lock)

    def test_one_that_holds_it_is_refused(self):
        table = table_after(3, 2, (0, 1))
        self.assert_refused(Holds, table, "ask", 0, 1)
        table.ask(2, 1)
        self.assert_refused(Holds, table, "ask", 0, 1)

    def test_one_that_holds_it_by_a_giving_is_refused(self):
        table = table_after(2, 1, (0, 0), (1, 0))
        table.give(0, 0)
        self.assert_refused(Holds, table, "ask", 1, 0)

    def test_waits_goes_ahead_of_holds(self):
        table = table_after(2, 2, (0, 0), (1, 1), (0, 1))
        self.assert_refused(Waits, table, "ask", 0, 0)


class Giving(TableCase):
    """[3]: give."""

    def test_a_lock_that_nobody_waits_for_is_free(self):
        table = table_after(2, 2, (0, 0), (0, 1))
        self.assertIsNone(table.give(0, 0))
        self.assertEqual(
            all_told(table),
            (2, 2, [(None, [1], 0), (None, [], 0)], [(None, [], 1), (0, [], 1)]),
        )

    def test_a_free_lock_may_be_asked_for_again(self):
        table = table_after(2, 1, (0, 0))
        table.give(0, 0)
        self.assertIs(table.ask(0, 0), True)
        table.give(0, 0)
        self.assertIs(table.ask(1, 0), True)

    def test_the_one_that_waits_holds_it_and_waits_no_more(self):
        table = table_after(3, 2, (0, 0), (2, 1), (2, 0))
        self.assertEqual(table.give(0, 0), 2)
        self.assertEqual(
            all_told(table),
            (3, 2, [(None, [], 0), (None, [], 0), (None, [0, 1], 1)], [(2, [], 2), (2, [], 1)]),
        )

    def test_of_several_the_one_that_waits_longest_holds_it(self):
        table = table_after(4, 1, (1, 0), (3, 0), (0, 0), (2, 0))
        self.assertEqual(table.give(1, 0), 3)
        self.assertEqual((table.holder(0), table.queue(0)), (3, [0, 2]))
        self.assertEqual([table.waits(agent) for agent in range(4)], [0, None, 0, None])
        self.assertEqual(table.give(3, 0), 0)
        self.assertEqual(table.give(0, 0), 2)
        self.assertIsNone(table.give(2, 0))

    def test_agent_zero_is_told_as_a_number(self):
        table = table_after(2, 1, (1, 0), (0, 0))
        given = table.give(1, 0)
        self.assertIsNotNone(given)
        self.assertEqual(given, 0)

    def test_who_gave_may_wait_behind_the_others(self):
        table = table_after(3, 1, (0, 0), (1, 0), (2, 0))
        table.give(0, 0)
        self.assertIs(table.ask(0, 0), False)
        self.assertEqual((table.holder(0), table.queue(0)), (1, [2, 0]))

    def test_other_locks_stand_as_they_stood(self):
        table = table_after(4, 2, (0, 0), (0, 1), (1, 0), (2, 1), (3, 1))
        table.give(0, 0)
        self.assertEqual((table.holder(1), table.queue(1), table.hold_number(1)), (0, [2, 3], 1))
        self.assertEqual((table.waits(2), table.waits(3)), (1, 1))

    def test_one_that_waits_is_refused(self):
        table = table_after(3, 3, (0, 0), (1, 1), (2, 1), (1, 0))
        for lock in range(3):
            with self.subTest(lock=lock):
                self.assert_refused(Waits, table, "give", 1, lock)

    def test_a_lock_that_it_does_not_hold_is_refused(self):
        table = table_after(3, 3, (0, 0), (1, 1))
        self.assert_refused(NotHeld, table, "give", 0, 1)
        self.assert_refused(NotHeld, table, "give", 0, 2)
        self.assert_refused(NotHeld, table, "give", 2, 2)

    def test_a_lock_that_it_holds_no_more_is_refused(self):
        table = table_after(2, 1, (0, 0), (1, 0))
        table.give(0, 0)
        self.assert_refused(NotHeld, table, "give", 0, 0)
        table.give(1, 0)
        self.assert_refused(NotHeld, table, "give", 1, 0)

    def test_waits_goes_ahead_of_not_held(self):
        table = table_after(2, 2, (0, 0), (1, 0))
        self.assert_refused(Waits, table, "give", 1, 0)
        self.assert_refused(Waits, table, "give", 1, 1)


class Leaving(TableCase):
    """[3]: leave."""

    def test_one_that_neither_waits_nor_holds(self):
        table = table_after(3, 2, (0, 0), (1, 0))
        ahead = all_told(table)
        self.assertEqual(table.leave(2), [])
        self.assertEqual(all_told(table), ahead)

    def test_one_that_waits_first_last_or_between(self):
        for agent, behind in ((1, [2, 3]), (2, [1, 3]), (3, [1, 2])):
            with self.subTest(agent=agent):
                table = table_after(4, 1, (0, 0), (1, 0), (2, 0), (3, 0))
                self.assertEqual(table.leave(agent), [])
                self.assertIsNone(table.waits(agent))
                self.assertEqual((table.holder(0), table.queue(0)), (0, behind))
                self.assertEqual(table.hold_number(0), 1)

    def test_who_left_a_queue_is_not_given_to(self):
        table = table_after(3, 1, (0, 0), (1, 0), (2, 0))
        table.leave(1)
        self.assertEqual(table.give(0, 0), 2)
        self.assertIsNone(table.give(2, 0))

    def test_who_left_may_ask_again_and_waits_behind(self):
        table = table_after(3, 1, (0, 0), (1, 0), (2, 0))
        table.leave(1)
        self.assertIs(table.ask(1, 0), False)
        self.assertEqual(table.queue(0), [2, 1])

    def test_each_lock_that_it_holds_is_told_by_rising_numbers(self):
        table = table_after(
            5, 12, (0, 11), (0, 4), (0, 0), (0, 7), (3, 7), (4, 7), (1, 0), (2, 11),
        )
        self.assertEqual(table.leave(0), [(0, 1), (4, None), (7, 3), (11, 2)])
        self.assertEqual([table.held(agent) for agent in range(5)], [[], [0], [11], [7], []])
        self.assertEqual(
            [(table.holder(lock), table.queue(lock)) for lock in (0, 4, 7, 11)],
            [(1, []), (None, []), (3, [4]), (2, [])],
        )
        self.assertEqual([table.waits(agent) for agent in range(5)], [None, None, None, None, 7])

    def test_agent_zero_is_told_as_a_number(self):
        table = table_after(2, 2, (1, 0), (1, 1), (0, 0))
        self.assertEqual(table.leave(1), [(0, 0), (1, None)])

    def test_one_that_both_waits_and_holds(self):
        table = table_after(4, 3, (0, 0), (1, 1), (1, 2), (2, 2), (1, 0), (3, 0))
        self.assertEqual(table.leave(1), [(1, None), (2, 2)])
        self.assertEqual(
            all_told(table),
            (4, 3, [(None, [0], 0), (None, [], 1), (None, [2], 1), (0, [], 1)],
             [(0, [3], 1), (None, [], 1), (2, [], 2)]),
        )

    def test_one_of_a_ring_lets_the_other_go_on(self):
        table = table_after(2, 2, (0, 0), (1, 1), (0, 1), (1, 0))
        self.assertEqual(table.leave(0), [(0, 1)])
        self.assertEqual((table.held(1), table.waits(1)), ([0, 1], None))

    def test_who_left_goes_on_and_leaves_again(self):
        table = table_after(2, 2, (0, 0), (1, 1), (0, 1))
        table.leave(0)
        self.assertEqual(table.leave(0), [])
        self.assertIs(table.ask(0, 0), True)
        self.assertEqual(table.leave(0), [(0, None)])


class Numbers(TableCase):
    """[4]: wait numbers of agents, hold numbers of locks."""

    def test_a_wait_number_rises_with_each_waiting_and_stays(self):
        table = table_after(2, 2, (0, 0))
        for number in range(1, 4):
            table.ask(1, 0)
            self.assertEqual(table.wait_number(1), number)
            table.give(0, 0)
            self.assertEqual(table.wait_number(1), number)
            table.give(1, 0)
            table.ask(0, 0)
            self.assertEqual(table.wait_number(1), number)
        self.assertEqual(table.wait_number(0), 0)

    def test_a_wait_number_is_of_the_agent_not_of_the_lock(self):
        table = table_after(3, 2, (0, 0), (0, 1), (1, 0))
        table.leave(1)
        table.ask(1, 1)
        table.ask(2, 1)
        self.assertEqual([table.wait_number(agent) for agent in range(3)], [0, 2, 1])

    def test_a_wait_number_stays_behind_a_leaving(self):
        table = table_after(2, 1, (0, 0), (1, 0))
        table.leave(1)
        self.assertEqual(table.wait_number(1), 1)
        table.ask(1, 0)
        self.assertEqual(table.wait_number(1), 2)

    def test_holding_at_once_is_no_waiting(self):
        table = table_after(1, 12, *[(0, lock) for lock in range(12)])
        self.assertEqual(table.wait_number(0), 0)

    def test_a_hold_number_rises_by_asking(self):
        table = Table(2, 2)
        for number in range(1, 4):
            table.ask(number % 2, 1)
            self.assertEqual(table.hold_number(1), number)
            table.give(number % 2, 1)
            self.assertEqual(table.hold_number(1), number)
        self.assertEqual(table.hold_number(0), 0)

    def test_a_hold_number_rises_by_a_giving(self):
        table = table_after(3, 1, (0, 0), (1, 0), (2, 0))
        self.assertEqual(table.hold_number(0), 1)
        table.give(0, 0)
        self.assertEqual(table.hold_number(0), 2)
        table.give(1, 0)
        self.assertEqual(table.hold_number(0), 3)

    def test_a_hold_number_rises_by_a_leaving_of_another(self):
        table = table_after(2, 3, (0, 0), (0, 1), (1, 1))
        table.leave(0)
        self.assertEqual([table.hold_number(lock) for lock in range(3)], [1, 2, 0])

    def test_a_hold_number_stays_while_others_begin_to_wait_or_leave(self):
        table = table_after(3, 1, (0, 0), (1, 0), (2, 0))
        table.leave(1)
        self.assertEqual(table.hold_number(0), 1)


class ToldLists(TableCase):
    """[1]: lists that are told may be changed by whoever has them."""

    def assert_may_be_changed(self, table, tell, *numbers):
        told = getattr(table, tell)(*numbers)
        ahead = all_told(table)
        told.reverse()
        told.append(5)
        self.assertEqual(all_told(table), ahead)
        told.clear()
        self.assertEqual(all_told(table), ahead)

    def test_held(self):
        table = table_after(2, 3, (0, 0), (0, 2))
        self.assert_may_be_changed(table, "held", 0)
        self.assert_may_be_changed(table, "held", 1)
        self.assertEqual(table.held(0), [0, 2])

    def test_queue(self):
        table = table_after(3, 2, (0, 0), (1, 0), (2, 0))
        self.assert_may_be_changed(table, "queue", 0)
        self.assert_may_be_changed(table, "queue", 1)
        self.assertEqual(table.give(0, 0), 1)

    def test_leave(self):
        table = table_after(3, 3, (0, 0), (0, 2), (1, 2), (2, 2))
        self.assert_may_be_changed(table, "leave", 0)
        self.assert_may_be_changed(table, "leave", 0)
        self.assertEqual(table.leave(1), [(2, 2)])

    def test_lists_told_earlier_stand_as_they_stood(self):
        table = table_after(3, 2, (0, 0), (0, 1), (1, 0), (2, 0))
        held, queue = table.held(0), table.queue(0)
        left = table.leave(0)
        table.leave(1)
        table.leave(2)
        self.assertEqual((held, queue, left), ([0, 1], [1, 2], [(0, 1), (1, None)]))


class Kinds(TableCase):
    """The interface: the kinds of what is told."""

    def test_kinds(self):
        table = table_after(3, 2, (0, 0), (1, 0), (0, 1))
        for told, kind in (
            (table.ask(2, 0), bool), (table.waits(1), int), (table.held(0), list),
            (table.wait_number(1), int), (table.holder(0), int), (table.queue(0), list),
            (table.hold_number(0), int), (table.agents(), int), (table.locks(), int),
            (table.give(0, 0), int), (table.leave(1), list), (table.leave(2)[0], tuple),
        ):
            with self.subTest(told=told, kind=kind):
                self.assertEqual(type(told), kind)


if __name__ == "__main__":
    unittest.main()
