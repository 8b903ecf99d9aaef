"""Deeds over halls, drawn by a fixed reckoning."""

SIZES = ((2, 2, 1), (3, 3, 2), (4, 6, 3), (5, 5, 4), (6, 12, 4))

SELDOM = ["stop", "rise", "rise", "rise", "lose", "double"]
ASKING = ["ask"] * 20 + ["give"] * 10 + ["carry"] * 6 + ["again"] + SELDOM
CARRYING = ["carry"] * 60 + ["ask"] * 3 + ["give", "again"] + SELDOM


def drawn(reckoning, size, letters, at):
    """A deed over a hall of that size with so many letters on the road; seldom a wrong one."""
    agents, locks, houses = size
    # In turns, so that rings come about, and letters get all the way round them.
    word = reckoning.one_of(ASKING if at // 40 % 2 == 0 else CARRYING)
    if word == "again":
        return (word,)
    if word in ("stop", "rise"):
        return (word, number_below(reckoning, houses))
    if word in ("ask", "give"):
        return (word, number_below(reckoning, agents), number_below(reckoning, locks))
    if word == "carry" and letters and reckoning.below(4):
        return (word, 0)
    return (word, number_below(reckoning, letters))


def number_below(reckoning, count):
    if count == 0 or reckoning.below(40) == 0:
        return count + reckoning.below(2)
    return reckoning.below(count)


def first_of(size):
    """Deeds by which each agent holds something, so that there is much to wait for."""
    agents, locks, houses = size
    return [("ask", lock % agents, lock) for lock in range(locks)]
