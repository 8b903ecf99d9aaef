"""Promises [8] to [11]: letters, and what each of them does when it is carried."""

import unittest

from asklock.errors import NoLetter
from asklock.halls import Hall
from asklock.rings import rings

from tellings import (
    THIRTY_FIGURES, HallCase, all_of, all_told, answer, hall_after, houses_of, kinds_on, until,
)


def lose_all(hall):
    for turn in until(lambda: not hall.road()):
        hall.lose(0)


def ring_hall(houses, *weights):
    """A hall of a ring: agent a holds as many locks as weights tell, and waits for a + 1's first.

    Agent a holds the lock a first. The last agent closes the ring; on the road is just its letter.
    """
    many = len(weights)
    hall = hall_after(many, 12, houses, *[(agent, agent) for agent in range(many)])
    lock = many
    for agent, weight in enumerate(weights):
        for more in range(weight - 1):
            hall.ask(agent, lock)
            lock += 1
    for agent in range(many - 1):
        hall.ask(agent, agent + 1)
    lose_all(hall)
    hall.ask(many - 1, 0)
    return hall


def carry_first(hall, times):
    for at in range(times):
        hall.carry(0)


def path_of(*weights):
    """The path of a ring_hall's ring, which goes from the greatest agent to 0, 1 .."""
    last = len(weights) - 1
    return ((last, 1, weights[last]), *[(at, 1, weights[at]) for at in range(last)])


class LetterCase(HallCase):
    def assert_stands(self, hall, road, told=(), broken=()):
        self.assertEqual((hall.road(), hall.told(), hall.broken()), (road, list(told), list(broken)))

    def assert_nothing_more(self, hall, number=0):
        """The letter is taken off the road, and nothing else happens."""
        road, *rest = all_of(hall)
        hall.carry(number)
        del road[number]
        self.assertEqual(all_of(hall), (road, *rest))


class WholeRings(LetterCase):
    """[8] to [11]: from the asking that closes a ring to the broken agent."""

    def test_a_ring_of_two_in_one_house(self):
        hall = hall_after(2, 2, 1, (0, 0), (1, 1))
        self.assert_stands(hall, [])
        hall.ask(0, 1)
        self.assert_stands(hall, [("who", ((0, 1, 1),), 1)])
        hall.carry(0)
        self.assert_stands(hall, [("is", ((0, 1, 1),), 1, 1, 1)])
        self.assert_nothing_more(hall)
        hall.ask(1, 0)
        path = ((1, 1, 1),)
        self.assert_stands(hall, [("who", path, 0)])
        hall.carry(0)
        self.assert_stands(hall, [("is", path, 0, 0, 1)])
        hall.carry(0)
        path = ((1, 1, 1), (0, 1, 1))
        self.assert_stands(hall, [("who", path, 1)])
        hall.carry(0)
        self.assert_stands(hall, [("is", path, 1, 1, 1)])
        hall.carry(0)
        self.assert_stands(hall, [("still", path, 1)])
        hall.carry(0)
        self.assert_stands(hall, [("still", path, 0)])
        self.assertEqual(rings(hall.table()), [(1, 0)])
        hall.carry(0)
        self.assert_stands(hall, [("break", 0, 1)], [(path, 0)])
        self.assertEqual(rings(hall.table()), [(1, 0)])
        hall.carry(0)
        self.assert_stands(hall, [], [(path, 0)], [(0, 1)])
        self.assertEqual(
            all_told(hall.table()),
            (2, 2, [(None, [], 1), (None, [0, 1], 1)], [(1, [], 2), (1, [], 1)]),
        )

    def test_a_ring_of_three_over_three_houses(self):
        hall = hall_after(3, 7, 3, (0, 0), (1, 1), (2, 2), (0, 5), (2, 6), (0, 1), (2, 0), (1, 2))
        self.assert_stands(hall, [
            ("who", ((0, 1, 2),), 1), ("who", ((2, 1, 2),), 0), ("who", ((1, 1, 1),), 2),
        ])
        ahead = all_told(hall.table())
        hall.lose(0)
        hall.lose(1)
        path = ((2, 1, 2), (0, 1, 2), (1, 1, 1))
        for letter in (
            ("who", path[:1], 0), ("is", path[:1], 0, 0, 1),
            ("who", path[:2], 1), ("is", path[:2], 1, 1, 1),
            ("who", path, 2), ("is", path, 2, 2, 1),
            ("still", path, 1), ("still", path, 2), ("still", path, 0),
        ):
            self.assert_stands(hall, [letter])
            self.assertEqual(all_told(hall.table()), ahead)
            hall.carry(0)
        self.assert_stands(hall, [("break", 1, 1)], [(path, 1)])
        self.assertEqual(all_told(hall.table()), ahead)
        hall.carry(0)
        self.assert_stands(hall, [], [(path, 1)], [(1, 1)])
        table = hall.table()
        self.assertEqual((table.held(0), table.waits(0), table.holder(1)), ([0, 1, 5], None, 0))
        self.assertEqual((table.held(1), table.waits(1), table.waits(2)), ([], None, 0))

    def test_the_largest_ring(self):
        hall = ring_hall(4, 1, 1, 1, 1, 1, 1, 1, 1)
        path = path_of(1, 1, 1, 1, 1, 1, 1, 1)
        carry_first(hall, 16)
        self.assert_stands(hall, [("still", path, 1)])
        carry_first(hall, 7)
        self.assert_stands(hall, [("still", path, 0)])
        carry_first(hall, 2)
        self.assert_stands(hall, [], [(path, 0)], [(0, 1)])

    def test_only_the_letter_of_the_greatest_comes_about(self):
        path = ((2, 1, 1), (0, 1, 1), (1, 1, 1))
        for kept, told in ((0, []), (1, []), (2, [(path, 0)])):
            hall = hall_after(3, 3, 3, (0, 0), (1, 1), (2, 2), (0, 1), (1, 2), (2, 0))
            for agent in (2, 1, 0):
                if agent != kept:
                    hall.lose(agent)
            self.assertEqual([letter[1] for letter in hall.road()], [((kept, 1, 1),)])
            for turn in until(lambda: not hall.road()):
                hall.carry(0)
            self.assertEqual(hall.told(), told)

    def test_a_second_ring_by_later_numbers_and_other_weights(self):
        hall = hall_after(3, 3, 2, (2, 0), (2, 1), (1, 2), (0, 0), (1, 1), (2, 2))
        self.assert_stands(hall, [
            ("who", ((0, 1, 0),), 0), ("who", ((1, 1, 1),), 1), ("who", ((2, 1, 2),), 2),
        ])
        for turn in until(lambda: not hall.road()):
            hall.carry(0)
        self.assert_stands(hall, [], [(((2, 1, 2), (1, 1, 1)), 1)], [(1, 1)])
        hall.give(2, 2)
        hall.ask(1, 2)
        hall.ask(2, 2)
        hall.ask(1, 0)
        for turn in until(lambda: not hall.road()):
            hall.carry(0)
        path = ((2, 2, 2), (1, 2, 1))
        self.assertEqual(hall.told()[1:], [(path, 1)])
        self.assertEqual(hall.broken(), [(1, 1), (1, 2)])


class Weights(LetterCase):
    """[8], [10]: the weights of a path, and which of it is broken."""

    def broken_of(self, *weights):
        hall = ring_hall(1, *weights)
        for turn in until(hall.broken):
            hall.carry(0)
        self.assertEqual(hall.told(), [(path_of(*weights), hall.broken()[0][0])])
        return hall.broken()

    def test_the_least_weight(self):
        self.assertEqual(self.broken_of(3, 2, 1), [(2, 1)])
        self.assertEqual(self.broken_of(2, 1, 3), [(1, 1)])
        self.assertEqual(self.broken_of(1, 2, 3), [(0, 1)])
        self.assertEqual(self.broken_of(4, 3), [(1, 1)])

    def test_of_several_the_least_number(self):
        self.assertEqual(self.broken_of(1, 1, 1), [(0, 1)])
        self.assertEqual(self.broken_of(3, 2, 2), [(1, 1)])
        self.assertEqual(self.broken_of(2, 3, 2), [(0, 1)])
        self.assertEqual(self.broken_of(3, 1, 2, 1), [(1, 1)])

    def test_the_weight_of_one_that_holds_nothing(self):
        hall = hall_after(2, 1, 1, (1, 0), (0, 0))
        self.assert_stands(hall, [("who", ((0, 1, 0),), 0)])


class WhoLetters(LetterCase):
    """[9], [10]: who."""

    def test_none_for_an_agent_that_holds_at_once(self):
        self.assert_stands(hall_after(2, 2, 1, (0, 0), (1, 1)), [])

    def test_none_for_a_giving(self):
        hall = hall_after(3, 1, 1, (0, 0), (1, 0), (2, 0))
        lose_all(hall)
        hall.give(0, 0)
        self.assert_stands(hall, [])

    def test_a_new_one_lies_at_the_end(self):
        hall = hall_after(3, 1, 1, (0, 0), (2, 0), (1, 0))
        self.assert_stands(hall, [("who", ((2, 1, 0),), 0), ("who", ((1, 1, 0),), 0)])
        hall.carry(0)
        self.assert_stands(hall, [("who", ((1, 1, 0),), 0), ("is", ((2, 1, 0),), 0, 0, 1)])

    def test_a_lock_that_nobody_holds(self):
        hall = hall_after(2, 1, 1, (0, 0), (1, 0))
        hall.give(0, 0)
        hall.give(1, 0)
        self.assert_nothing_more(hall)

    def test_who_holds_it_when_it_is_carried(self):
        hall = hall_after(3, 1, 1, (0, 0), (1, 0), (2, 0))
        hall.give(0, 0)
        hall.carry(1)
        self.assert_stands(hall, [("who", ((1, 1, 0),), 0), ("is", ((2, 1, 0),), 1, 0, 2)])
        hall.carry(0)
        self.assert_stands(hall, [
            ("is", ((2, 1, 0),), 1, 0, 2), ("is", ((1, 1, 0),), 1, 0, 2),
        ])

    def test_agent_zero_holds_it(self):
        hall = hall_after(2, 2, 1, (0, 1), (1, 1))
        hall.carry(0)
        self.assert_stands(hall, [("is", ((1, 1, 0),), 0, 1, 1)])

    def test_a_path_keeps_the_weight_that_it_began_with(self):
        hall = hall_after(2, 3, 1, (0, 0), (1, 1), (1, 0))
        hall.give(0, 0)
        hall.give(1, 1)
        hall.give(1, 0)
        hall.ask(0, 0)
        hall.carry(0)
        self.assert_stands(hall, [("is", ((1, 1, 1),), 0, 0, 3)])


class IsLetters(LetterCase):
    """[10]: is, and each reason for nothing more."""

    def test_on_to_the_lock_that_the_agent_waits_for(self):
        hall = hall_after(3, 3, 1, (0, 0), (1, 1), (0, 1), (2, 0))
        hall.carry(1)
        hall.carry(1)
        self.assertEqual(hall.road()[1:], [("who", ((2, 1, 0), (0, 1, 1)), 1)])

    def test_the_agent_does_not_wait(self):
        hall = hall_after(2, 1, 1, (0, 0), (1, 0))
        hall.carry(0)
        self.assert_nothing_more(hall)

    def test_the_agent_does_not_hold_the_lock_that_another_holds(self):
        hall = hall_after(3, 2, 1, (1, 0), (0, 1), (2, 0))
        hall.carry(0)
        hall.give(1, 0)
        hall.ask(1, 1)
        self.assert_nothing_more(hall)

    def test_the_agent_does_not_hold_the_lock_that_is_free(self):
        hall = hall_after(3, 2, 1, (1, 0), (0, 1), (2, 0))
        hall.carry(0)
        hall.give(1, 0)
        hall.give(2, 0)
        hall.ask(1, 1)
        self.assert_nothing_more(hall)

    def test_the_agent_gave_the_lock_which_nobody_came_to_hold_since(self):
        # Agent 2 is broken while a double of its letter is late, so that nobody waits for lock 0.
        hall = hall_after(3, 4, 1, (1, 0), (1, 1), (2, 2), (0, 3), (1, 2))
        lose_all(hall)
        hall.ask(2, 0)
        hall.carry(0)
        hall.double(0)
        for turn in until(hall.broken):
            hall.carry(1)
        self.assertEqual(hall.broken(), [(2, 1)])
        self.assertIsNone(hall.give(1, 0))
        hall.ask(1, 3)
        self.assertEqual((hall.table().holder(0), hall.table().hold_number(0)), (None, 1))
        self.assertEqual(hall.road()[0], ("is", ((2, 1, 1),), 1, 0, 1))
        self.assert_nothing_more(hall)

    def test_the_agent_holds_the_lock_by_another_hold_number(self):
        hall = hall_after(3, 2, 1, (1, 0), (0, 1), (2, 0))
        hall.carry(0)
        hall.give(1, 0)
        hall.give(2, 0)
        hall.ask(1, 0)
        hall.ask(1, 1)
        self.assertEqual((hall.table().holder(0), hall.table().hold_number(0)), (1, 3))
        self.assertEqual(hall.road()[0], ("is", ((2, 1, 0),), 1, 0, 1))
        self.assert_nothing_more(hall)

    def test_the_agent_is_greater_than_the_first(self):
        hall = hall_after(3, 2, 1, (1, 0), (2, 1), (1, 1), (0, 0))
        hall.carry(1)
        self.assertEqual(hall.road()[1], ("is", ((0, 1, 0),), 1, 0, 1))
        self.assert_nothing_more(hall, 1)

    def test_a_later_agent_is_greater_than_the_first(self):
        hall = hall_after(4, 3, 1, (0, 0), (3, 1), (2, 2), (0, 1), (3, 2), (1, 0))
        for at in range(3):
            hall.carry(2)
        self.assertEqual(hall.road()[2], ("is", ((1, 1, 0), (0, 1, 1)), 3, 1, 1))
        self.assert_nothing_more(hall, 2)

    def test_one_between_is_greater_than_the_last_but_not_than_the_first(self):
        hall = hall_after(4, 3, 1, (0, 0), (2, 1), (1, 2), (0, 1), (2, 2), (3, 0))
        for at in range(4):
            hall.carry(2)
        self.assertEqual(hall.road()[2:], [("who", ((3, 1, 0), (0, 1, 1), (2, 1, 1)), 2)])

    def test_the_agent_is_in_the_path(self):
        hall = hall_after(3, 2, 1, (0, 0), (1, 1), (0, 1), (1, 0), (2, 0))
        for at in range(5):
            hall.carry(2)
        path = ((2, 1, 0), (0, 1, 1), (1, 1, 1))
        self.assertEqual(hall.road()[2:], [("is", path, 0, 0, 1)])
        self.assert_nothing_more(hall, 2)

    def test_the_agent_is_the_last_of_the_path(self):
        # Agent 1 came to hold what it waited for, and waits anew when the letter comes.
        hall = hall_after(4, 3, 1, (1, 0), (0, 2), (0, 1), (1, 1), (3, 0))
        hall.carry(1)
        hall.carry(1)
        self.assertEqual(hall.road()[1:], [("who", ((3, 1, 0), (1, 1, 1)), 1)])
        hall.give(0, 1)
        hall.carry(1)
        hall.ask(1, 2)
        self.assertEqual(hall.road()[1], ("is", ((3, 1, 0), (1, 1, 1)), 1, 1, 2))
        self.assert_nothing_more(hall, 1)

    def closed_hall(self):
        """A hall with two is letters that close one ring, both to agent 1."""
        hall = ring_hall(1, 1, 1)
        carry_first(hall, 3)
        hall.double(0)
        letter = ("is", ((1, 1, 1), (0, 1, 1)), 1, 1, 1)
        self.assert_stands(hall, [letter, letter])
        return hall

    def test_the_first_agent_closes_the_path(self):
        hall = self.closed_hall()
        hall.carry(0)
        self.assertEqual(hall.road()[1:], [("still", ((1, 1, 1), (0, 1, 1)), 1)])

    def test_the_first_agent_waits_no_more(self):
        hall = self.closed_hall()
        for turn in until(hall.broken):
            hall.carry(1)
        self.assertEqual(hall.broken(), [(0, 1)])
        self.assert_nothing_more(hall)

    def test_the_first_agent_waits_by_another_wait_number(self):
        hall = self.closed_hall()
        for turn in until(hall.broken):
            hall.carry(1)
        hall.ask(0, 2)
        hall.ask(1, 2)
        table = hall.table()
        self.assertEqual((table.holder(1), table.hold_number(1)), (1, 1))
        self.assertEqual((table.waits(1), table.wait_number(1)), (2, 2))
        self.assert_nothing_more(hall)

    def test_the_first_agent_alone_came_to_hold_what_it_waited_for(self):
        hall = hall_after(2, 2, 1, (0, 0), (0, 1), (1, 0))
        hall.give(0, 0)
        hall.carry(0)
        self.assert_stands(hall, [("is", ((1, 1, 0),), 1, 0, 2)])
        hall.ask(1, 1)
        self.assert_nothing_more(hall)


class StillLetters(LetterCase):
    """[10]: still, and each reason for nothing more."""

    def still_hall(self, place):
        """A hall with a ring of three and two letters still for the place."""
        hall = ring_hall(1, 1, 1, 1)
        carry_first(hall, 6)
        for turn in until(lambda: hall.road()[0][2] == place):
            hall.carry(0)
        hall.double(0)
        letter = ("still", path_of(1, 1, 1), place)
        self.assert_stands(hall, [letter, letter])
        return hall

    def broken_hall(self, place):
        """The same, when agent 0 was broken by one of the letters."""
        hall = self.still_hall(place)
        for turn in until(hall.broken):
            hall.carry(1)
        self.assertEqual(hall.broken(), [(0, 1)])
        return hall

    def test_on_to_the_next_place_and_behind_the_last_to_the_first(self):
        for place, after in ((1, 2), (2, 0)):
            hall = self.still_hall(place)
            hall.carry(0)
            self.assertEqual(hall.road()[1:], [("still", path_of(1, 1, 1), after)])
            self.assertEqual((hall.told(), hall.broken()), ([], []))

    def test_one_that_does_not_wait(self):
        # Agent 0, which stands at place 1, was broken, and agent 2 came to hold what it held.
        self.assert_nothing_more(self.broken_hall(1))
        self.assert_nothing_more(self.broken_hall(0))

    def test_one_that_waits_still_though_the_ring_is_none(self):
        hall = self.broken_hall(2)
        hall.carry(0)
        self.assertEqual(hall.road(), [("still", path_of(1, 1, 1), 0)])
        self.assert_nothing_more(hall)

    def test_one_that_waits_by_another_wait_number(self):
        hall = self.broken_hall(1)
        hall.ask(0, 0)
        self.assertEqual(hall.table().waits(0), 0)
        self.assertEqual(hall.table().wait_number(0), 2)
        self.assert_nothing_more(hall)

    def test_the_first_one_waits_by_another_wait_number(self):
        hall = self.broken_hall(0)
        hall.ask(2, 1)
        self.assertEqual(hall.table().waits(2), 1)
        self.assertEqual(hall.table().wait_number(2), 2)
        self.assert_nothing_more(hall)

    def test_a_middle_one_waits_by_another_wait_number(self):
        hall = self.broken_hall(2)
        hall.give(2, 2)
        self.assertIsNone(hall.table().waits(1))
        self.assert_nothing_more(hall)
        hall = self.broken_hall(2)
        hall.give(2, 2)
        hall.ask(1, 0)
        self.assertEqual((hall.table().waits(1), hall.table().wait_number(1)), (0, 2))
        self.assert_nothing_more(hall)

    def test_a_ring_that_was_told_is_not_told_again_but_a_break_letter_is_laid(self):
        hall = self.still_hall(0)
        hall.carry(0)
        told = [(path_of(1, 1, 1), 0)]
        self.assert_stands(hall, [("still", path_of(1, 1, 1), 0), ("break", 0, 1)], told)
        hall.carry(0)
        self.assert_stands(hall, [("break", 0, 1), ("break", 0, 1)], told)
        hall.carry(0)
        self.assert_stands(hall, [("break", 0, 1)], told, [(0, 1)])
        self.assert_nothing_more(hall)

    def test_a_break_letter_that_was_lost_is_laid_anew_by_again(self):
        hall = self.still_hall(0)
        carry_first(hall, 2)
        lose_all(hall)
        hall.again()
        for turn in until(lambda: not hall.road()):
            hall.carry(0)
        self.assert_stands(hall, [], [(path_of(1, 1, 1), 0)], [(0, 1)])

    def test_one_ring_behind_another_of_the_same_agents_is_told(self):
        hall = ring_hall(1, 1, 1)
        for turn in until(lambda: not hall.road()):
            hall.carry(0)
        hall.give(1, 0)
        hall.ask(0, 0)
        hall.ask(0, 1)
        hall.ask(1, 0)
        for turn in until(lambda: not hall.road()):
            hall.carry(0)
        second = ((1, 2, 1), (0, 2, 1))
        self.assert_stands(hall, [], [(path_of(1, 1), 0), (second, 0)], [(0, 1), (0, 2)])

    def test_a_break_letter_laid_by_a_late_letter_does_nothing(self):
        # The path's first agent waits still, though agent 1 of it was broken meanwhile.
        hall = ring_hall(1, 2, 1, 2)
        carry_first(hall, 8)
        path = path_of(2, 1, 2)
        self.assert_stands(hall, [("still", path, 0)])
        hall.double(0)
        carry_first(hall, 1)
        hall.carry(1)
        self.assert_stands(hall, [("still", path, 0)], [(path, 1)], [(1, 1)])
        hall.carry(0)
        self.assert_stands(hall, [("break", 1, 1)], [(path, 1)], [(1, 1)])
        self.assert_nothing_more(hall)


class BreakLetters(LetterCase):
    """[10]: break."""

    def break_hall(self):
        """A hall with a ring of two and two letters to break agent 0."""
        hall = ring_hall(1, 1, 1)
        for turn in until(lambda: kinds_on(hall) == ["break"]):
            hall.carry(0)
        hall.double(0)
        self.assertEqual(hall.road(), [("break", 0, 1), ("break", 0, 1)])
        return hall

    def test_it_leaves_and_is_broken(self):
        hall = self.break_hall()
        hall.carry(0)
        self.assertEqual(hall.broken(), [(0, 1)])
        self.assertEqual(hall.table().held(1), [0, 1])
        self.assertEqual((hall.table().held(0), hall.table().waits(0)), ([], None))

    def test_it_waits_no_more(self):
        hall = self.break_hall()
        hall.carry(0)
        hall.ask(0, 2)
        self.assert_nothing_more(hall)

    def test_it_waits_by_another_wait_number(self):
        hall = self.break_hall()
        hall.carry(0)
        hall.ask(0, 2)
        hall.ask(0, 0)
        self.assertEqual(hall.table().wait_number(0), 2)
        self.assert_nothing_more(hall, 0)

    def test_all_that_it_holds_is_given_though_the_locks_houses_are_stopped(self):
        hall = hall_after(3, 8, 4, (0, 0), (0, 1), (0, 6), (1, 5), (1, 2), (1, 3), (2, 6), (0, 5))
        lose_all(hall)
        hall.ask(1, 0)
        for turn in until(lambda: kinds_on(hall) == ["break"]):
            hall.carry(0)
        self.assertEqual(hall.road(), [("break", 0, 1)])
        for house in (1, 2, 3):
            hall.stop(house)
        hall.carry(0)
        self.assertEqual(hall.broken(), [(0, 1)])
        table = hall.table()
        self.assertEqual([table.held(agent) for agent in range(3)], [[], [0, 2, 3, 5], [6]])
        self.assertEqual([table.waits(agent) for agent in range(3)], [None, None, None])
        self.assertIsNone(table.holder(1))


class Lost(LetterCase):
    """[10]: a letter to a stopped house is lost."""

    def letters(self):
        """Halls of four houses, with a letter each, and the house that it goes to."""
        hall = hall_after(8, 12, 4, (6, 7), (5, 10), (6, 10), (7, 11))
        lose_all(hall)
        hall.ask(7, 7)
        yield hall, "who", 3
        hall = hall_after(8, 12, 4, (6, 7), (5, 10), (6, 10), (7, 11))
        lose_all(hall)
        hall.ask(7, 7)
        hall.carry(0)
        yield hall, "is", 2
        for place, house in ((1, 0), (2, 1), (3, 2), (0, 3)):
            hall = ring_hall(4, 2, 1, 1, 2)
            for turn in until(lambda: hall.road()[0][::2] == ("still", place)):
                hall.carry(0)
            yield hall, "still", house
        hall = ring_hall(4, 2, 1, 1, 2)
        for turn in until(lambda: hall.road()[0][0] == "break"):
            hall.carry(0)
        yield hall, "break", 1

    def test_its_house_is_stopped(self):
        for hall, kind, house in self.letters():
            with self.subTest(kind, house=house):
                self.assertEqual(kinds_on(hall), [kind])
                hall.stop(house)
                self.assert_nothing_more(hall)

    def test_all_other_houses_are_stopped(self):
        for hall, kind, house in self.letters():
            with self.subTest(kind, house=house):
                for other in range(4):
                    if other != house:
                        hall.stop(other)
                hall.carry(0)
                self.assertEqual(len(hall.road()) + len(hall.broken()), 1)

    def test_its_house_is_up_again(self):
        for hall, kind, house in self.letters():
            with self.subTest(kind, house=house):
                hall.stop(house)
                hall.rise(house)
                hall.carry(0)
                self.assertEqual(len(hall.road()) + len(hall.broken()), 1)

    def test_a_stopped_house_loses_no_letter_that_is_not_carried(self):
        for hall, kind, house in self.letters():
            ahead = hall.road()
            for other in range(4):
                hall.stop(other)
            self.assertEqual(hall.road(), ahead)
            hall.double(0)
            self.assertEqual(hall.road(), ahead * 2)
            hall.lose(0)
            self.assertEqual(hall.road(), ahead)


class Again(LetterCase):
    """[9]: again."""

    def test_nobody_waits(self):
        hall = hall_after(3, 3, 1, (0, 0), (1, 1))
        hall.again()
        self.assert_stands(hall, [])

    def test_all_that_wait_by_rising_agents_behind_what_lies_there(self):
        hall = hall_after(5, 5, 2, (2, 0), (0, 1), (4, 0), (1, 1), (2, 1))
        lose_all(hall)
        hall.ask(3, 1)
        first = ("who", ((3, 1, 0),), 1)
        self.assert_stands(hall, [first])
        hall.again()
        self.assert_stands(hall, [
            first, ("who", ((1, 1, 0),), 1), ("who", ((2, 1, 1),), 1), first,
            ("who", ((4, 1, 0),), 0),
        ])

    def test_those_whose_houses_are_stopped_lay_none(self):
        hall = hall_after(6, 4, 3, (3, 0), *[(agent, 0) for agent in (0, 1, 2, 4, 5)])
        lose_all(hall)
        hall.stop(1)
        hall.again()
        self.assert_stands(hall, [("who", ((agent, 1, 0),), 0) for agent in (0, 2, 5)])
        lose_all(hall)
        hall.stop(0)
        hall.again()
        self.assert_stands(hall, [("who", ((agent, 1, 0),), 0) for agent in (2, 5)])
        lose_all(hall)
        hall.stop(2)
        hall.again()
        self.assert_stands(hall, [])
        hall.rise(1)
        hall.again()
        self.assert_stands(hall, [("who", ((agent, 1, 0),), 0) for agent in (1, 4)])

    def test_a_lock_whose_house_is_stopped(self):
        hall = hall_after(4, 4, 4, (0, 3), (1, 3))
        lose_all(hall)
        hall.stop(3)
        hall.again()
        self.assert_stands(hall, [("who", ((1, 1, 0),), 3)])

    def test_the_numbers_are_those_of_now(self):
        hall = hall_after(2, 3, 1, (0, 0), (1, 0))
        hall.give(0, 0)
        hall.ask(0, 0)
        hall.give(1, 0)
        hall.ask(1, 1)
        hall.ask(1, 2)
        hall.ask(1, 0)
        lose_all(hall)
        hall.again()
        hall.again()
        self.assert_stands(hall, [("who", ((1, 2, 2),), 0)] * 2)


class LoseAndDouble(LetterCase):
    """[11]: lose and double; and NoLetter."""

    def three(self):
        return hall_after(4, 1, 1, (0, 0), (1, 0), (2, 0), (3, 0))

    def letter(self, agent):
        return ("who", ((agent, 1, 0),), 0)

    def test_lose(self):
        for number, left in ((0, (2, 3)), (1, (1, 3)), (2, (1, 2))):
            hall = self.three()
            rest = all_of(hall)[1:]
            hall.lose(number)
            self.assertEqual(hall.road(), [self.letter(agent) for agent in left])
            self.assertEqual(all_of(hall)[1:], rest)

    def test_double(self):
        for number in range(3):
            hall = self.three()
            rest = all_of(hall)[1:]
            hall.double(number)
            agents = (1, 2, 3, number + 1)
            self.assertEqual(hall.road(), [self.letter(agent) for agent in agents])
            self.assertEqual(all_of(hall)[1:], rest)

    def test_a_double_is_carried_by_itself(self):
        hall = self.three()
        hall.double(1)
        hall.carry(3)
        told = ("is", ((2, 1, 0),), 0, 0, 1)
        self.assertEqual(hall.road(), [*[self.letter(agent) for agent in (1, 2, 3)], told])
        hall.lose(1)
        self.assertEqual(hall.road(), [self.letter(1), self.letter(3), told])

    def test_carry_takes_any_letter(self):
        for number in range(3):
            hall = self.three()
            hall.carry(number)
            agents = [agent for agent in (1, 2, 3) if agent != number + 1]
            told = ("is", ((number + 1, 1, 0),), 0, 0, 1)
            self.assertEqual(hall.road(), [*[self.letter(agent) for agent in agents], told])

    def test_no_letter(self):
        for hall, count in ((self.three(), 3), (Hall(2, 2, 2), 0)):
            for stopped in (False, True):
                for number in (
                    count, count + 1, -1, -2, -3, -4, THIRTY_FIGURES, -THIRTY_FIGURES,
                ):
                    for deed in ("carry", "lose", "double"):
                        with self.subTest(deed, number=number, stopped=stopped):
                            self.assert_refused(NoLetter, hall, deed, number)
                if not stopped:
                    for house in range(len(houses_of(hall))):
                        answer(hall, ("stop", house))

    def test_the_last_letter_is_one(self):
        hall = self.three()
        for deed in ("double", "carry", "lose"):
            getattr(hall, deed)(len(hall.road()) - 1)
        self.assertEqual(len(hall.road()), 3)


class TwoRings(LetterCase):
    """[11]: told and broken tell all in turn."""

    def setUp(self):
        self.hall = hall_after(
            4, 4, 3, *[(at, at) for at in range(4)], (0, 3), (3, 0), (1, 2), (2, 1),
        )
        self.first = (((3, 1, 1), (0, 1, 1)), 0)
        self.second = (((2, 1, 1), (1, 1, 1)), 1)

    def carry_to_breaks(self):
        for turn in until(lambda: kinds_on(self.hall) == ["break", "break"]):
            self.hall.carry(0)

    def test_in_turn(self):
        self.carry_to_breaks()
        told = [self.first, self.second]
        self.assert_stands(self.hall, [("break", 0, 1), ("break", 1, 1)], told)
        carry_first(self.hall, 2)
        self.assert_stands(self.hall, [], told, [(0, 1), (1, 1)])

    def test_in_another_turn(self):
        lose_all(self.hall)
        self.hall.again()
        self.carry_to_breaks()
        told = [self.second, self.first]
        self.assert_stands(self.hall, [("break", 1, 1), ("break", 0, 1)], told)
        self.hall.carry(1)
        self.assert_stands(self.hall, [("break", 1, 1)], told, [(0, 1)])
        self.hall.carry(0)
        self.assert_stands(self.hall, [], told, [(0, 1), (1, 1)])


if __name__ == "__main__":
    unittest.main()
