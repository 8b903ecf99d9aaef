"""The errors of the program: a class for each kind of refusal."""


class LockError(ValueError):
    """Any refusal."""


class NoTable(LockError):
    """No table has so many agents, or so many locks."""


class NoHall(LockError):
    """No hall has so many agents, so many locks, or so many houses."""


class NoAgent(LockError):
    """There is no agent of that number."""


class NoLock(LockError):
    """There is no lock of that number."""


class NoHouse(LockError):
    """There is no house of that number."""


class NoLetter(LockError):
    """There is no letter of that number on the road."""


class Stopped(LockError):
    """The house is stopped."""


class Waits(LockError):
    """The agent waits, and so neither asks nor gives."""


class Holds(LockError):
    """The agent holds the lock that it asks for."""


class NotHeld(LockError):
    """The agent doesn't hold the lock that it gives."""


class Up(LockError):
    """The house is up."""
