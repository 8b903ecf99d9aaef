"""Promise [7], and [1] and [2] as far as they speak of halls."""

import unittest

from asklock.errors import (
    Holds, NoAgent, NoHall, NoHouse, NoLetter, NoLock, NotHeld, Stopped, Up, Waits,
)
from asklock.halls import Hall
from asklock.rings import least, rings
from asklock.tables import Table

from tellings import (
    NO_COUNTS, THIRTY_FIGURES, HallCase, Reckoning, all_of, all_told, answer, deeds_of, hall_after,
    houses_of, kinds_on, until,
)


class Counts(HallCase):
    """[2], [7]: 1 to 8 agents, 1 to 12 locks, 1 to 4 houses, all up."""

    def test_each_count_within_the_limits_makes_a_new_hall(self):
        for agents in range(1, 9):
            for locks in range(1, 13):
                for houses in range(1, 5):
                    with self.subTest(agents=agents, locks=locks, houses=houses):
                        hall = Hall(agents, locks, houses)
                        told = ([], [], [], all_told(Table(agents, locks)), [True] * houses)
                        self.assertEqual(all_of(hall), told)

    def assert_no_hall(self, *counts):
        with self.subTest(counts=counts), self.assertRaises(NoHall) as caught:
            Hall(*counts)
        self.assertEqual(type(caught.exception), NoHall)

    def test_other_counts_are_refused(self):
        for agents in NO_COUNTS["agents"]:
            self.assert_no_hall(agents, 3, 2)
        for locks in NO_COUNTS["locks"]:
            self.assert_no_hall(3, locks, 2)
        for houses in NO_COUNTS["houses"]:
            self.assert_no_hall(3, 2, houses)

    def test_several_counts_wrong_are_refused(self):
        for agents in (3, *NO_COUNTS["agents"]):
            for locks in NO_COUNTS["locks"]:
                for houses in NO_COUNTS["houses"]:
                    self.assert_no_hall(agents, locks, houses)
        for agents in NO_COUNTS["agents"]:
            self.assert_no_hall(agents, 13, 2)
            self.assert_no_hall(agents, 3, 5)

    def test_more_houses_than_agents_and_locks(self):
        hall = Hall(1, 1, 4)
        self.assertIs(hall.ask(0, 0), True)
        hall.stop(3)
        self.assertIsNone(hall.give(0, 0))


class UnknownNumbers(HallCase):
    """[2]: agents, locks and houses that there aren't."""

    def setUp(self):
        self.hall = hall_after(3, 4, 2, (0, 0), (1, 0), (2, 3))
        self.no_agents = (3, 4, -1, -3, THIRTY_FIGURES, -THIRTY_FIGURES)
        self.no_locks = (4, 5, -1, -4, THIRTY_FIGURES, -THIRTY_FIGURES)

    def assert_no_numbers(self):
        for deed in ("ask", "give"):
            for agent in self.no_agents:
                for lock in (*range(4), *self.no_locks):
                    with self.subTest(deed, agent=agent, lock=lock):
                        self.assert_refused(NoAgent, self.hall, deed, agent, lock)
            for agent in range(3):
                for lock in self.no_locks:
                    with self.subTest(deed, agent=agent, lock=lock):
                        self.assert_refused(NoLock, self.hall, deed, agent, lock)

    def test_no_agent_goes_ahead_of_no_lock_and_that_of_waits_and_the_rest(self):
        self.assert_no_numbers()

    def test_both_go_ahead_of_stopped(self):
        self.hall.stop(0)
        self.assert_no_numbers()
        self.hall.stop(1)
        self.assert_no_numbers()

    def test_no_house(self):
        for house in (2, 3, 4, -1, -2, THIRTY_FIGURES, -THIRTY_FIGURES):
            for deed in ("stop", "rise"):
                with self.subTest(deed, house=house):
                    self.assert_refused(NoHouse, self.hall, deed, house)
        self.hall.stop(0)
        self.hall.stop(1)
        for house in (2, -1, -2, THIRTY_FIGURES):
            for deed in ("stop", "rise"):
                with self.subTest(deed, house=house):
                    self.assert_refused(NoHouse, self.hall, deed, house)

    def test_each_hall_refuses_by_its_own_houses(self):
        for houses in range(1, 5):
            hall = Hall(8, 12, houses)
            hall.stop(houses - 1)
            self.assert_refused(NoHouse, hall, "stop", houses)
            self.assert_refused(NoHouse, hall, "rise", houses)


class AsTable(HallCase):
    """[7]: ask and give are those of the table."""

    def test_answers(self):
        hall = Hall(3, 2, 2)
        self.assertIs(hall.ask(0, 0), True)
        self.assertIs(hall.ask(2, 0), False)
        self.assertIs(hall.ask(1, 0), False)
        self.assertEqual(hall.give(0, 0), 2)
        self.assertEqual(hall.give(2, 0), 1)
        self.assertIsNone(hall.give(1, 0))

    def test_agent_zero_is_told_as_a_number(self):
        hall = hall_after(2, 1, 1, (1, 0), (0, 0))
        given = hall.give(1, 0)
        self.assertIsNotNone(given)
        self.assertEqual(given, 0)

    def test_refusals(self):
        hall = hall_after(3, 3, 2, (0, 0), (1, 1), (1, 0), (2, 2))
        for lock in range(3):
            self.assert_refused(Waits, hall, "ask", 1, lock)
            self.assert_refused(Waits, hall, "give", 1, lock)
        self.assert_refused(Holds, hall, "ask", 0, 0)
        self.assert_refused(NotHeld, hall, "give", 0, 1)
        self.assert_refused(NotHeld, hall, "give", 2, 0)

    def test_many_deeds_in_turn_beside_a_table(self):
        reckoning = Reckoning(3)
        for agents, locks, houses in ((2, 2, 1), (3, 5, 2), (8, 3, 3), (8, 12, 4)):
            hall, table = Hall(agents, locks, houses), Table(agents, locks)
            deeds = [deed for deed in deeds_of(agents, locks) if deed[0] != "leave"]
            for at in range(600):
                deed = reckoning.one_of(deeds)
                self.assertEqual(answer(hall, deed), answer(table, deed))
                self.assertEqual(all_told(hall.table()), all_told(table))


class Houses(HallCase):
    """[7]: houses that stop and rise."""

    def test_a_house_stops_and_rises(self):
        hall = Hall(2, 2, 3)
        self.assertEqual(houses_of(hall), [True, True, True])
        self.assertIsNone(hall.stop(1))
        self.assertEqual(houses_of(hall), [True, False, True])
        self.assertIsNone(hall.stop(2))
        self.assertIsNone(hall.rise(1))
        self.assertEqual(houses_of(hall), [True, True, False])
        self.assertIsNone(hall.stop(1))
        self.assertIsNone(hall.stop(0))
        self.assertEqual(houses_of(hall), [False, False, False])

    def test_one_that_is_stopped_is_not_stopped_again(self):
        hall = Hall(2, 2, 2)
        hall.stop(0)
        self.assert_refused(Stopped, hall, "stop", 0)
        hall.rise(0)
        hall.stop(0)
        self.assert_refused(Stopped, hall, "stop", 0)

    def test_one_that_is_up_does_not_rise(self):
        hall = Hall(2, 2, 2)
        for house in range(2):
            self.assert_refused(Up, hall, "rise", house)
        hall.stop(0)
        self.assert_refused(Up, hall, "rise", 1)
        hall.rise(0)
        self.assert_refused(Up, hall, "rise", 0)

    def test_nothing_else_is_changed(self):
        hall = hall_after(3, 3, 3, (0, 0), (1, 1), (1, 0))
        ahead = all_of(hall)[:4]
        hall.stop(0)
        self.assertEqual(all_of(hall)[:4], ahead)
        hall.rise(0)
        self.assertEqual(all_of(hall)[:4], ahead)

    def test_of_each_agent_and_lock_the_house_is_the_rest(self):
        for houses in range(1, 5):
            for house in range(houses):
                hall = Hall(8, 12, houses)
                hall.stop(house)
                for agent in range(8):
                    for lock in range(12):
                        at_stopped = house in (agent % houses, lock % houses)
                        asked = answer(hall, ("ask", agent, lock))
                        given = answer(hall, ("give", agent, lock))
                        with self.subTest(houses=houses, house=house, agent=agent, lock=lock):
                            expected = (Stopped, Stopped) if at_stopped else (True, None)
                            self.assertEqual((asked, given), expected)

    def test_ask_of_an_agent_or_for_a_lock_whose_house_is_stopped(self):
        hall = Hall(4, 4, 4)
        hall.stop(1)
        self.assert_refused(Stopped, hall, "ask", 1, 0)
        self.assert_refused(Stopped, hall, "ask", 0, 1)
        self.assert_refused(Stopped, hall, "ask", 1, 1)
        self.assertIs(hall.ask(0, 2), True)
        hall.rise(1)
        self.assertIs(hall.ask(1, 0), True)
        self.assertIs(hall.ask(0, 1), True)

    def test_give_of_an_agent_or_of_a_lock_whose_house_is_stopped(self):
        hall = hall_after(4, 4, 4, (1, 0), (0, 1), (1, 2), (2, 3))
        hall.stop(1)
        self.assert_refused(Stopped, hall, "give", 1, 0)
        self.assert_refused(Stopped, hall, "give", 0, 1)
        self.assertIsNone(hall.give(2, 3))
        hall.rise(1)
        self.assertIsNone(hall.give(1, 0))
        self.assertIsNone(hall.give(0, 1))

    def test_stopped_goes_ahead_of_waits_holds_and_not_held(self):
        hall = hall_after(4, 8, 4, (0, 0), (1, 1), (0, 2), (2, 3), (3, 0))
        hall.ask(1, 0)
        for house, waits, holds in ((0, (1, 0), (0, 0)), (1, (1, 0), (1, 1))):
            hall.stop(house)
            self.assert_refused(Stopped, hall, "ask", *waits)
            self.assert_refused(Stopped, hall, "give", *waits)
            self.assert_refused(Stopped, hall, "ask", *holds)
            hall.rise(house)
        hall.stop(2)
        self.assert_refused(Stopped, hall, "ask", 3, 2)
        self.assert_refused(Stopped, hall, "ask", 0, 2)
        self.assert_refused(Stopped, hall, "give", 3, 2)
        self.assert_refused(Stopped, hall, "give", 2, 0)
        self.assert_refused(Waits, hall, "ask", 3, 0)
        self.assert_refused(Holds, hall, "ask", 0, 0)
        self.assert_refused(NotHeld, hall, "give", 0, 1)

    def test_a_lock_that_is_given_goes_to_an_agent_whose_house_is_stopped(self):
        hall = hall_after(3, 3, 3, (0, 0), (1, 0), (2, 0))
        hall.stop(1)
        self.assertEqual(hall.give(0, 0), 1)
        table = hall.table()
        self.assertEqual((table.holder(0), table.queue(0), table.waits(1)), (1, [2], None))
        self.assert_refused(Stopped, hall, "give", 1, 0)
        hall.rise(1)
        self.assertEqual(hall.give(1, 0), 2)


class ToldLists(HallCase):
    """[1]: what is told may be changed by whoever has it; nothing is in common."""

    def busy_hall(self):
        hall = hall_after(3, 3, 1, (0, 0), (1, 1), (2, 2), (0, 1), (1, 0))
        for turn in until(hall.broken):
            hall.carry(0)
        hall.ask(2, 0)
        hall.ask(0, 1)
        self.assertTrue(hall.road() and hall.told() and hall.broken())
        return hall

    def test_lists(self):
        for word in ("road", "told", "broken"):
            hall = self.busy_hall()
            ahead = all_of(hall)
            told = getattr(hall, word)()
            self.assertEqual(type(told), list)
            told.append(told[0])
            self.assertEqual(all_of(hall), ahead)
            told[0] = ()
            self.assertEqual(all_of(hall), ahead)
            told.clear()
            self.assertEqual(all_of(hall), ahead)

    def test_lists_of_a_new_hall(self):
        hall = Hall(1, 1, 1)
        for word in ("road", "told", "broken"):
            getattr(hall, word)().append(5)
            self.assertEqual(getattr(hall, word)(), [])

    def test_lists_told_earlier_stand_as_they_stood(self):
        hall = hall_after(2, 2, 1, (0, 0), (1, 1), (0, 1))
        road, told, broken = hall.road(), hall.told(), hall.broken()
        hall.ask(1, 0)
        for turn in until(lambda: not hall.road()):
            hall.carry(0)
        self.assertEqual((road, told, broken), ([("who", ((0, 1, 1),), 1)], [], []))

    def test_tuples_all_through(self):
        hall = self.busy_hall()
        for letter in (*hall.road(), *hall.told(), *hall.broken()):
            self.assertEqual(type(letter), tuple)
        for path in [letter[1] for letter in hall.road()] + [path for path, agent in hall.told()]:
            self.assertEqual({type(path), *map(type, path)}, {tuple})

    def test_the_table_is_one_and_stands_alike(self):
        hall = self.busy_hall()
        table = hall.table()
        self.assertEqual(type(table), Table)
        self.assertEqual(all_told(table), all_told(hall.table()))
        self.assertEqual(table.wait_number(1), 1)
        self.assertEqual(table.waits(0), 1)
        self.assertEqual(table.queue(1), [0])
        self.assertEqual(table.hold_number(0), 2)

    def test_the_table_may_be_changed(self):
        hall = self.busy_hall()
        ahead = all_of(hall)
        table = hall.table()
        for lock in range(3):
            for agent in range(3):
                answer(table, ("ask", agent, lock))
                self.assertEqual(all_of(hall), ahead)
        for agent in range(3):
            for lock in range(3):
                answer(table, ("give", agent, lock))
                self.assertEqual(all_of(hall), ahead)
            table.leave(agent)
            self.assertEqual(all_of(hall), ahead)

    def test_the_table_stands_as_it_stood_whatever_the_hall_does(self):
        hall = hall_after(3, 3, 1, (0, 0), (1, 1), (2, 2), (0, 1), (2, 1))
        table = hall.table()
        ahead = all_told(table)
        hall.ask(1, 0)
        self.assertEqual(all_told(table), ahead)
        for turn in until(lambda: not hall.road()):
            hall.carry(0)
            self.assertEqual(all_told(table), ahead)
        for deed in deeds_of(3, 3):
            if deed[0] != "leave":
                answer(hall, deed)
                self.assertEqual(all_told(table), ahead)

    def test_the_table_does_what_a_table_does(self):
        hall = hall_after(3, 3, 2, (0, 0), (1, 1), (2, 0), (0, 1), (1, 0))
        table = hall.table()
        self.assertEqual(rings(table), [(1, 0)])
        self.assertEqual(least(table), (1, [0]))
        self.assertEqual(table.leave(0), [(0, 2)])
        self.assertEqual(table.queue(0), [1])
        self.assertIs(table.ask(0, 0), False)
        self.assertEqual((table.queue(0), table.wait_number(0)), ([1, 0], 2))
        self.assertEqual(table.hold_number(0), 2)
        self.assertRaises(NoAgent, table.ask, 3, 0)
        self.assertRaises(NoLock, table.ask, 0, 3)

    def test_two_tables_of_a_hall_have_nothing_in_common(self):
        hall = hall_after(2, 2, 1, (0, 0), (1, 0))
        first, second = hall.table(), hall.table()
        first.leave(0)
        self.assertEqual(all_told(second), all_told(hall.table()))

    def test_two_halls_have_nothing_in_common(self):
        first, second = Hall(2, 2, 2), Hall(2, 2, 2)
        for deed in (("ask", 0, 0), ("ask", 1, 1), ("ask", 0, 1), ("ask", 1, 0)):
            getattr(first, deed[0])(*deed[1:])
        for turn in until(lambda: not first.road()):
            first.carry(0)
        first.again()
        first.stop(1)
        self.assertEqual(all_of(second), all_of(Hall(2, 2, 2)))

    def test_what_is_refused_lays_no_letter(self):
        hall = hall_after(2, 2, 2, (0, 0), (1, 0))
        self.assert_refused(Waits, hall, "ask", 1, 1)
        self.assert_refused(Holds, hall, "ask", 0, 0)
        self.assert_refused(NotHeld, hall, "give", 0, 1)
        self.assert_refused(NoLetter, hall, "carry", 1)
        self.assertEqual(kinds_on(hall), ["who"])


class Kinds(HallCase):
    """The interface: the kinds of what is told."""

    def test_deeds_tell_none(self):
        hall = hall_after(2, 2, 2, (0, 0), (1, 0))
        for deed in (
            ("again",), ("double", 0), ("lose", 0), ("carry", 0), ("stop", 1), ("rise", 1),
        ):
            self.assertIsNone(getattr(hall, deed[0])(*deed[1:]))

    def test_each_carry_of_a_whole_ring_tells_none(self):
        hall = hall_after(2, 2, 2, (0, 0), (1, 1), (0, 1), (1, 0))
        hall.double(0)
        for turn in until(lambda: not hall.road()):
            self.assertIsNone(hall.carry(0))
        self.assertTrue(hall.broken())


if __name__ == "__main__":
    unittest.main()
