"""What the tests of tables share: all that a table tells, and refusals by it."""

import unittest

from asklock.tables import Table


def all_told(table):
    """All that the table tells, lists included, to be compared later."""
    of_agents = [
        (table.waits(agent), table.held(agent), table.wait_number(agent))
        for agent in range(table.agents())
    ]
    of_locks = [
        (table.holder(lock), table.queue(lock), table.hold_number(lock))
        for lock in range(table.locks())
    ]
    return (table.agents(), table.locks(), of_agents, of_locks)


def table_after(agents, locks, *asked):
    """A new table in which agents have asked for locks, in turn."""
    table = Table(agents, locks)
    for agent, lock in asked:
        table.ask(agent, lock)
    return table


class TableCase(unittest.TestCase):
    def assert_refused(self, error, table, deed, *numbers):
        """The deed is refused with just this class, and changes nothing."""
        ahead = all_told(table)
        with self.assertRaises(error) as caught:
            getattr(table, deed)(*numbers)
        self.assertEqual(type(caught.exception), error)
        self.assertEqual(all_told(table), ahead)
