"""What the tests share: all that a table or a hall tells, refusals by it, a fixed reckoning."""

import copy
import unittest

from asklock.errors import LockError, NoHouse
from asklock.halls import Hall
from asklock.tables import Table

THIRTY_FIGURES = 10 ** 30 - 1

NO_COUNTS = {
    "agents": (0, 9, 10, -1, -8, THIRTY_FIGURES, -THIRTY_FIGURES),
    "locks": (0, 13, 14, -1, -12, THIRTY_FIGURES, -THIRTY_FIGURES),
    "houses": (0, 5, 6, -1, -4, THIRTY_FIGURES, -THIRTY_FIGURES),
}


def all_told(table):
    """All that the table tells, lists included, to be compared later."""
    of_agents = [
        (table.waits(agent), table.held(agent), table.wait_number(agent))
        for agent in range(table.agents())
    ]
    of_locks = [
        (table.holder(lock), table.queue(lock), table.hold_number(lock))
        for lock in range(table.locks())
    ]
    return (table.agents(), table.locks(), of_agents, of_locks)


def table_after(agents, locks, *asked):
    """A new table in which agents have asked for locks, in turn."""
    table = Table(agents, locks)
    for agent, lock in asked:
        table.ask(agent, lock)
    return table


def deeds_of(agents, locks):
    """All deeds over a table of so many agents and locks."""
    deeds = [("leave", agent) for agent in range(agents)]
    for word in ("ask", "give"):
        deeds += [(word, agent, lock) for agent in range(agents) for lock in range(locks)]
    return deeds


def hall_after(agents, locks, houses, *asked):
    """A new hall in which agents have asked for locks, in turn."""
    hall = Hall(agents, locks, houses)
    for agent, lock in asked:
        hall.ask(agent, lock)
    return hall


def kinds_on(hall):
    """Of each letter on the road its kind."""
    return [letter[0] for letter in hall.road()]


def answer(told, deed):
    """What the table or the hall answers to the deed, or the class of its refusal."""
    try:
        return getattr(told, deed[0])(*deed[1:])
    except LockError as refusal:
        return type(refusal)


def houses_of(hall):
    """Of each house whether it is up: a copy of the hall is asked to stop it."""
    up = []
    for house in range(10):
        refusal = answer(copy.deepcopy(hall), ("stop", house))
        if refusal == NoHouse:
            break
        up.append(refusal is None)
    return up


def until(holds):
    """Go round until it holds; if it never does, the test fails and doesn't hang."""
    for turn in range(5000):
        if holds():
            return
        yield turn
    raise AssertionError("it never holds")


def all_of(hall):
    """All that the hall tells, and which of its houses are up."""
    return (
        hall.road(), hall.told(), hall.broken(), all_told(hall.table()), houses_of(hall),
    )


class TableCase(unittest.TestCase):
    def assert_refused(self, error, table, deed, *numbers):
        """The deed is refused with just this class, and changes nothing."""
        ahead = all_told(table)
        with self.assertRaises(error) as caught:
            getattr(table, deed)(*numbers)
        self.assertEqual(type(caught.exception), error)
        self.assertEqual(all_told(table), ahead)


class HallCase(unittest.TestCase):
    def assert_refused(self, error, hall, deed, *numbers):
        """The deed is refused with just this class, and changes nothing."""
        ahead = all_of(hall)
        with self.assertRaises(error) as caught:
            getattr(hall, deed)(*numbers)
        self.assertEqual(type(caught.exception), error)
        self.assertEqual(all_of(hall), ahead)


class Reckoning:
    """A plain rule of sums that stands for chance, so that each run is alike."""

    def __init__(self, number):
        self.number = number

    def below(self, count):
        self.number = (self.number * 6364136223846793005 + 1442695040888963407) & (2 ** 64 - 1)
        return (self.number >> 33) % count

    def one_of(self, rows):
        return rows[self.below(len(rows))]
