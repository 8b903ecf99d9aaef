"""A hall: houses that find the rings of one table by letters alone."""

from asklock.errors import NoHall, NoHouse, NoLetter, NoTable, Stopped, Up
from asklock.rings import weight_of
from asklock.tables import Table

MOST_HOUSES = 4


class Hall:
    """Houses, a table whose agents and locks live in them, and a road of letters."""

    def __init__(self, agents, locks, houses):
        # Ahead of the list, which would be as long as any number that is handed in.
        if not 1 <= houses <= MOST_HOUSES:
            raise NoHall(f"no hall has {houses} houses")
        try:
            self.lock_table = Table(agents, locks)
        except NoTable:
            raise NoHall(f"no hall has {agents} agents and {locks} locks") from None
        self.stopped = [False] * houses
        self.letters = []
        self.told_rings = []
        self.broken_agents = []

    def ask(self, agent, lock):
        """Let the agent hold the lock (True), or wait for it (False) and look for a ring."""
        self.check_reach(agent, lock)
        holds = self.lock_table.ask(agent, lock)
        if not holds:
            self.lay_who((), agent)
        return holds

    def give(self, agent, lock):
        """Take the lock from the agent; tell who holds it then, or None."""
        self.check_reach(agent, lock)
        return self.lock_table.give(agent, lock)

    def again(self):
        """Look for rings anew, from each agent that waits and whose house is up."""
        for agent in range(self.lock_table.agents()):
            if self.lock_table.waits(agent) is not None and self.is_up(agent):
                self.lay_who((), agent)

    def carry(self, number):
        """Take the letter to its house, where it is lost if the house is stopped."""
        letter = self.taken(number)
        if not self.is_up(reader(letter)):
            return
        if letter[0] == "who":
            self.read_who(letter)
        elif letter[0] == "is":
            self.read_is(letter)
        elif letter[0] == "still":
            self.read_still(letter)
        else:
            self.read_break(letter)

    def lose(self, number):
        """Take the letter off the road."""
        self.taken(number)

    def double(self, number):
        """Lay a letter like this one at the end of the road."""
        self.check_letter(number)
        self.letters.append(self.letters[number])

    def stop(self, house):
        """Stop a house that is up."""
        self.check_house(house)
        if self.stopped[house]:
            raise Stopped(f"house {house} is stopped")
        self.stopped[house] = True

    def rise(self, house):
        """Let a house rise that is stopped."""
        self.check_house(house)
        if not self.stopped[house]:
            raise Up(f"house {house} is up")
        self.stopped[house] = False

    def road(self):
        """Tell the letters on the road, in order."""
        # A copy, here and below, as whoever has the list may change it.
        return list(self.letters)

    def told(self):
        """Tell the (path, agent) of all rings that were told, in turn."""
        return list(self.told_rings)

    def broken(self):
        """Tell the (agent, wait number) of all agents that were broken, in turn."""
        return list(self.broken_agents)

    def table(self):
        """Tell a table of its own that stands like the hall's."""
        return self.lock_table.twin()

    def is_up(self, number):
        """Tell whether the house of the agent, or of the lock, of that number is up."""
        return not self.stopped[number % len(self.stopped)]

    def check_reach(self, agent, lock):
        """Refuse numbers of no agent or no lock, and those whose house is stopped."""
        self.lock_table.check_agent(agent)
        self.lock_table.check_lock(lock)
        if not self.is_up(agent):
            raise Stopped(f"the house of agent {agent} is stopped")
        if not self.is_up(lock):
            raise Stopped(f"the house of lock {lock} is stopped")

    def check_house(self, house):
        """Refuse a number that no house has."""
        if not 0 <= house < len(self.stopped):
            raise NoHouse(f"there is no house {house}")

    def check_letter(self, number):
        """Refuse a number that no letter on the road has."""
        if not 0 <= number < len(self.letters):
            raise NoLetter(f"there is no letter {number}")

    def taken(self, number):
        """Take the letter off the road, and tell it."""
        self.check_letter(number)
        return self.letters.pop(number)

    def waits_by(self, agent, wait):
        """Tell whether the agent waits by that wait number."""
        if self.lock_table.waits(agent) is None:
            return False
        return self.lock_table.wait_number(agent) == wait

    def holds_by(self, agent, lock, hold):
        """Tell whether the agent holds the lock by that hold number."""
        if self.lock_table.holder(lock) != agent:
            return False
        return self.lock_table.hold_number(lock) == hold

    def lay_who(self, path, agent):
        """Ask who holds the lock that the agent waits for; the path leads up to the agent."""
        table = self.lock_table
        place = (agent, table.wait_number(agent), weight_of(table, agent))
        self.letters.append(("who", path + (place,), table.waits(agent)))

    def read_who(self, letter):
        """At the lock's house: send the path on to the agent that holds the lock."""
        path, lock = letter[1:]
        agent = self.lock_table.holder(lock)
        if agent is not None:
            hold = self.lock_table.hold_number(lock)
            self.letters.append(("is", path, agent, lock, hold))

    def read_is(self, letter):
        """At the agent's house: close the path, or lengthen it, if the agent waits itself."""
        path, agent, lock, hold = letter[1:]
        if self.lock_table.waits(agent) is None or not self.holds_by(agent, lock, hold):
            return
        first, wait = path[0][:2]
        if agent == first:
            if self.waits_by(agent, wait):
                self.letters.append(("still", path, 1))
        elif agent < first and agent not in [place[0] for place in path]:
            # An agent greater than the first one finds the same ring by its own letter.
            self.lay_who(path, agent)

    def read_still(self, letter):
        """At the house of the path's agent: send on, or tell the ring, if it waits as it did."""
        path, place = letter[1:]
        agent, wait = path[place][:2]
        if not self.waits_by(agent, wait):
            return
        if place == 0:
            self.tell_ring(path)
        else:
            self.letters.append(("still", path, (place + 1) % len(path)))

    def read_break(self, letter):
        """At the agent's house: break the agent, if it waits as it did."""
        agent, wait = letter[1:]
        if self.waits_by(agent, wait):
            self.lock_table.leave(agent)
            self.broken_agents.append((agent, wait))

    def tell_ring(self, path):
        """Send for the least agent of the path to be broken; tell the ring, but once."""
        agent, wait = min(path, key=lambda place: (place[2], place[0]))[:2]
        # A letter each time, as the one that was laid with the telling may be lost.
        self.letters.append(("break", agent, wait))
        if path not in [ring for ring, chosen in self.told_rings]:
            self.told_rings.append((path, agent))


def reader(letter):
    """Tell the agent, or the lock, to whose house the letter goes."""
    if letter[0] == "still":
        path, place = letter[1:]
        return path[place][0]
    if letter[0] == "break":
        return letter[1]
    return letter[2]
