"""A table: agents that ask for locks, hold them, wait for them and give them."""

from asklock.errors import Holds, NoAgent, NoLock, NotHeld, NoTable, Waits

MOST_AGENTS = 8
MOST_LOCKS = 12


class Table:
    """Agents and locks, each numbered from 0."""

    def __init__(self, agents, locks):
        if not 1 <= agents <= MOST_AGENTS:
            raise NoTable(f"no table has {agents} agents")
        if not 1 <= locks <= MOST_LOCKS:
            raise NoTable(f"no table has {locks} locks")
        self.wanted = [None] * agents
        self.wait_numbers = [0] * agents
        self.holders = [None] * locks
        self.hold_numbers = [0] * locks
        self.queues = [[] for lock in range(locks)]

    def ask(self, agent, lock):
        """Let the agent hold the lock (True), or wait for it (False)."""
        self.check_agent(agent)
        self.check_lock(lock)
        self.check_goes_on(agent)
        if self.holders[lock] == agent:
            raise Holds(f"agent {agent} holds lock {lock}")
        if self.holders[lock] is None:
            self.hand_to(lock, agent)
            return True
        self.wanted[agent] = lock
        self.wait_numbers[agent] += 1
        self.queues[lock].append(agent)
        return False

    def give(self, agent, lock):
        """Take the lock from the agent; tell who holds it then, or None."""
        self.check_agent(agent)
        self.check_lock(lock)
        self.check_goes_on(agent)
        if self.holders[lock] != agent:
            raise NotHeld(f"agent {agent} does not hold lock {lock}")
        return self.pass_on(lock)

    def leave(self, agent):
        """Let the agent neither wait nor hold; tell of each lock that it held."""
        self.check_agent(agent)
        if self.wanted[agent] is not None:
            self.queues[self.wanted[agent]].remove(agent)
            self.wanted[agent] = None
        locks = self.held(agent)
        given = []
        for lock in locks:
            given.append((lock, self.pass_on(lock)))
        return given

    def waits(self, agent):
        """Tell the lock that the agent waits for, or None."""
        self.check_agent(agent)
        return self.wanted[agent]

    def held(self, agent):
        """Tell the locks that the agent holds, rising."""
        self.check_agent(agent)
        return [lock for lock, holder in enumerate(self.holders) if holder == agent]

    def wait_number(self, agent):
        """Tell the number of the agent's last waiting, 0 if there was none."""
        self.check_agent(agent)
        return self.wait_numbers[agent]

    def holder(self, lock):
        """Tell the agent that holds the lock, or None."""
        self.check_lock(lock)
        return self.holders[lock]

    def queue(self, lock):
        """Tell the agents that wait for the lock, those that wait longest first."""
        self.check_lock(lock)
        # A copy, as whoever has the list may change it.
        return list(self.queues[lock])

    def hold_number(self, lock):
        """Tell how many times somebody came to hold the lock."""
        self.check_lock(lock)
        return self.hold_numbers[lock]

    def agents(self):
        """Tell how many agents there are."""
        return len(self.wanted)

    def locks(self):
        """Tell how many locks there are."""
        return len(self.holders)

    def twin(self):
        """Tell another table that stands alike and has nothing in common with this one."""
        other = Table(len(self.wanted), len(self.holders))
        other.wanted = list(self.wanted)
        other.wait_numbers = list(self.wait_numbers)
        other.holders = list(self.holders)
        other.hold_numbers = list(self.hold_numbers)
        other.queues = [list(queue) for queue in self.queues]
        return other

    def check_agent(self, agent):
        """Refuse a number that no agent has."""
        if not 0 <= agent < len(self.wanted):
            raise NoAgent(f"there is no agent {agent}")

    def check_lock(self, lock):
        """Refuse a number that no lock has."""
        if not 0 <= lock < len(self.holders):
            raise NoLock(f"there is no lock {lock}")

    def check_goes_on(self, agent):
        """Refuse an agent that waits."""
        if self.wanted[agent] is not None:
            raise Waits(f"agent {agent} waits for lock {self.wanted[agent]}")

    def hand_to(self, lock, agent):
        """Let the agent, which doesn't wait, hold the lock."""
        self.holders[lock] = agent
        self.hold_numbers[lock] += 1

    def pass_on(self, lock):
        """Let who waits longest hold the lock, or free it; tell who holds it then."""
        if not self.queues[lock]:
            self.holders[lock] = None
            return None
        heir = self.queues[lock].pop(0)
        self.wanted[heir] = None
        self.hand_to(lock, heir)
        return heir
