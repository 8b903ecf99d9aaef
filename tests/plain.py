"""A second, plainer telling of the promises, which shares nothing with the program's own way.

Each lock has one line of agents: the one that holds it, then those that wait for it.
Rings are found by trying all orders of all agents, the least by letting each choice leave.
"""

import copy
import itertools

from asklock.errors import (
    Holds, NoAgent, NoHouse, NoLetter, NoLock, NotHeld, Stopped, Up, Waits,
)


class Lines:
    def __init__(self, agents, locks):
        self.lines = [[] for lock in range(locks)]
        self.waitings = [0] * agents
        self.holdings = [0] * locks

    def waits(self, agent):
        for lock, line in enumerate(self.lines):
            if agent in line[1:]:
                return lock
        return None

    def held(self, agent):
        return [lock for lock, line in enumerate(self.lines) if line[:1] == [agent]]

    def ask(self, agent, lock):
        if self.waits(agent) is not None:
            return Waits
        if lock in self.held(agent):
            return Holds
        self.lines[lock].append(agent)
        if self.lines[lock] == [agent]:
            self.holdings[lock] += 1
            return True
        self.waitings[agent] += 1
        return False

    def give(self, agent, lock):
        if self.waits(agent) is not None:
            return Waits
        if lock not in self.held(agent):
            return NotHeld
        del self.lines[lock][0]
        if not self.lines[lock]:
            return None
        self.holdings[lock] += 1
        return self.lines[lock][0]

    def leave(self, agent):
        waited_for = self.waits(agent)
        if waited_for is not None:
            self.lines[waited_for].remove(agent)
        return [(lock, self.give(agent, lock)) for lock in self.held(agent)]

    def all_told(self):
        of_agents = [
            (self.waits(agent), self.held(agent), waiting)
            for agent, waiting in enumerate(self.waitings)
        ]
        of_locks = [
            (line[0] if line else None, line[1:], holding)
            for line, holding in zip(self.lines, self.holdings)
        ]
        return (len(self.waitings), len(self.lines), of_agents, of_locks)

    def awaited(self, agent):
        lock = self.waits(agent)
        return None if lock is None else self.lines[lock][0]

    def chain(self, agent):
        if self.awaited(agent) is None:
            return [agent]
        agents = [agent, self.awaited(agent)]
        while self.awaited(agents[-1]) is not None and len(set(agents)) == len(agents):
            agents.append(self.awaited(agents[-1]))
        return agents if len(set(agents)) == len(agents) else agents[:-1]

    def rings(self):
        # Who doesn't wait is in no ring; so there are fewer orders to try.
        waiting = [at for at in range(len(self.waitings)) if self.waits(at) is not None]
        found = []
        for many in range(2, len(waiting) + 1):
            for agents in itertools.permutations(waiting, many):
                following = agents[1:] + agents[:1]
                if agents[0] == max(agents) and all(
                    self.awaited(agent) == after for agent, after in zip(agents, following)
                ):
                    found.append(agents)
        return sorted(found)

    def least(self):
        choices = []
        for many in range(len(self.waitings) + 1):
            for agents in itertools.combinations(range(len(self.waitings)), many):
                after = copy.deepcopy(self)
                for agent in agents:
                    after.leave(agent)
                if not after.rings():
                    weight = sum(len(self.held(agent)) for agent in agents)
                    choices.append((weight, many, list(agents)))
        weight, many, agents = min(choices)
        return (weight, agents)


class PlainHall:
    """A hall by the words of the document, with a dict for each letter."""

    def __init__(self, agents, locks, houses):
        self.lines = Lines(agents, locks)
        self.agents = agents
        self.locks = locks
        self.houses = houses
        self.up = {house: True for house in range(houses)}
        self.letters = []
        self.tellings = []
        self.breakings = []

    def refusal(self, agent, lock):
        if agent not in range(self.agents):
            return NoAgent
        if lock not in range(self.locks):
            return NoLock
        if not (self.up[agent % self.houses] and self.up[lock % self.houses]):
            return Stopped
        return None

    def tuple_of(self, agent):
        return (agent, self.lines.waitings[agent], len(self.lines.held(agent)))

    def begin(self, agent):
        path = (self.tuple_of(agent),)
        self.letters.append({"kind": "who", "path": path, "lock": self.lines.waits(agent)})

    def ask(self, agent, lock):
        told = self.refusal(agent, lock)
        if told is None:
            told = self.lines.ask(agent, lock)
            if told is False:
                self.begin(agent)
        return told

    def give(self, agent, lock):
        return self.refusal(agent, lock) or self.lines.give(agent, lock)

    def again(self):
        for agent in range(self.agents):
            if self.lines.waits(agent) is not None and self.up[agent % self.houses]:
                self.begin(agent)

    def lose(self, number):
        if number not in range(len(self.letters)):
            return NoLetter
        del self.letters[number]
        return None

    def double(self, number):
        if number not in range(len(self.letters)):
            return NoLetter
        self.letters.append(dict(self.letters[number]))
        return None

    def stop(self, house):
        if house not in range(self.houses):
            return NoHouse
        if not self.up[house]:
            return Stopped
        self.up[house] = False
        return None

    def rise(self, house):
        if house not in range(self.houses):
            return NoHouse
        if self.up[house]:
            return Up
        self.up[house] = True
        return None

    def carry(self, number):
        if number not in range(len(self.letters)):
            return NoLetter
        letter = self.letters[number]
        self.letters = self.letters[:number] + self.letters[number + 1:]
        home = {
            "who": lambda: letter["lock"],
            "is": lambda: letter["agent"],
            "still": lambda: letter["path"][letter["place"]][0],
            "break": lambda: letter["agent"],
        }[letter["kind"]]()
        if self.up[home % self.houses]:
            getattr(self, "do_" + letter["kind"])(**letter)
        return None

    def do_who(self, kind, path, lock):
        if self.lines.lines[lock]:
            self.letters.append({
                "kind": "is", "path": path, "agent": self.lines.lines[lock][0],
                "lock": lock, "hold": self.lines.holdings[lock],
            })

    def do_is(self, kind, path, agent, lock, hold):
        waits = self.lines.waits(agent) is not None
        holds = lock in self.lines.held(agent) and self.lines.holdings[lock] == hold
        if not (waits and holds):
            return
        if agent == path[0][0]:
            if self.lines.waitings[agent] == path[0][1]:
                self.letters.append({"kind": "still", "path": path, "place": 1})
            return
        if agent > path[0][0] or agent in {passed for passed, wait, weight in path}:
            return
        longer = (*path, self.tuple_of(agent))
        self.letters.append({"kind": "who", "path": longer, "lock": self.lines.waits(agent)})

    def waits_by(self, agent, wait):
        return self.lines.waits(agent) is not None and self.lines.waitings[agent] == wait

    def do_still(self, kind, path, place):
        if not self.waits_by(*path[place][:2]):
            return
        if place:
            after = 0 if place == len(path) - 1 else place + 1
            self.letters.append({"kind": "still", "path": path, "place": after})
            return
        weights = [weight for agent, wait, weight in path]
        agent, wait = min(row[:2] for row in path if row[2] == min(weights))
        self.letters.append({"kind": "break", "agent": agent, "wait": wait})
        if path not in dict(self.tellings):
            self.tellings.append((path, agent))

    def do_break(self, kind, agent, wait):
        if self.waits_by(agent, wait):
            self.lines.leave(agent)
            self.breakings.append((agent, wait))

    def road(self):
        return [tuple(letter.values()) for letter in self.letters]

    def all_of(self):
        return (
            self.road(), self.tellings, self.breakings, self.lines.all_told(),
            list(self.up.values()),
        )
