"""Rings of agents that wait for one another, and the least that breaks them."""


def chain(table, agent):
    """Tell the agents from this one on, each of which waits for the next."""
    agents = []
    after = agent
    while after is not None and after not in agents:
        agents.append(after)
        after = awaited(table, after)
    return agents


def rings(table):
    """Tell all rings of the table, by rising first agents."""
    found = []
    for agent in range(table.agents()):
        agents = chain(table, agent)
        if awaited(table, agents[-1]) == agent and max(agents) == agent:
            found.append(tuple(agents))
    return found


def is_ring(table, some):
    """Tell whether the tuple of numbers is a ring of the table."""
    return some in rings(table)


def least(table):
    """Tell the agents that weigh least of all by whose leaving no ring is left."""
    agents = sorted([lightest(table, ring) for ring in rings(table)])
    return (sum([weight_of(table, agent) for agent in agents]), agents)


def awaited(table, agent):
    """Tell the agent that holds what this one waits for, or None if it doesn't wait."""
    lock = table.waits(agent)
    if lock is None:
        return None
    return table.holder(lock)


def weight_of(table, agent):
    """Tell how many locks the agent holds."""
    return len(table.held(agent))


def lightest(table, ring):
    """Tell the agent of the ring of the least weight, of several that of the least number."""
    return min(ring, key=lambda agent: (weight_of(table, agent), agent))
