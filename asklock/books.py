"""Books: deeds as texts, played in a hall of their own."""

from asklock.errors import Holds, NoAgent, NoHouse, NoLetter, NoLock, NotHeld, Stopped, Up, Waits
from asklock.halls import Hall

MOST_FIGURES = 30

# How many numbers stand behind each word.
DEEDS = {
    "ask": 2,
    "give": 2,
    "again": 0,
    "carry": 1,
    "lose": 1,
    "double": 1,
    "stop": 1,
    "rise": 1,
}


def played(agents, locks, houses, book):
    """Do all deeds of the book in a new hall; tell (an answer for each deed, the hall)."""
    hall = Hall(agents, locks, houses)
    answers = [answer_to(hall, deed) for deed in book]
    return (answers, hall)


def answer_to(hall, deed):
    """Do the deed, if it is one; tell the answer."""
    words = deed.split(" ")
    if not are_deed(words):
        return "BadDeed"
    numbers = [int(word) for word in words[1:]]
    try:
        return act(hall, words[0], numbers)
    except NoAgent:
        return "NoAgent"
    except NoLock:
        return "NoLock"
    except NoHouse:
        return "NoHouse"
    except NoLetter:
        return "NoLetter"
    except Stopped:
        return "Stopped"
    except Waits:
        return "Waits"
    except Holds:
        return "Holds"
    except NotHeld:
        return "NotHeld"
    except Up:
        return "Up"


def are_deed(words):
    """Tell whether the words are a deed: a known one, and its numbers behind it."""
    if words[0] not in DEEDS or len(words) != 1 + DEEDS[words[0]]:
        return False
    return all([is_number(word) for word in words[1:]])


def is_number(word):
    """Tell whether the word is a number, written with no needless sign."""
    # Python's own reading takes signs, underlines and figures of other scripts as well.
    if not word.isascii() or not word.isdigit() or len(word) > MOST_FIGURES:
        return False
    return word == "0" or not word.startswith("0")


def act(hall, word, numbers):
    """Do the deed of that word in the hall; tell the answer."""
    if word == "ask":
        return asked(hall, numbers[0], numbers[1])
    if word == "give":
        return given(hall, numbers[0], numbers[1])
    if word == "carry":
        return carried(hall, numbers[0])
    if word == "again":
        hall.again()
    elif word == "lose":
        hall.lose(numbers[0])
    elif word == "double":
        hall.double(numbers[0])
    elif word == "stop":
        hall.stop(numbers[0])
    else:
        hall.rise(numbers[0])
    return "done"


def asked(hall, agent, lock):
    """Let the agent ask; tell whether it holds the lock or waits."""
    if hall.ask(agent, lock):
        return "holds"
    return "waits"


def given(hall, agent, lock):
    """Let the agent give; tell who holds the lock now, if anybody does."""
    holder = hall.give(agent, lock)
    if holder is None:
        return "free"
    return str(holder)


def carried(hall, number):
    """Carry the letter; tell what came of it."""
    many_told = len(hall.told())
    many_broken = len(hall.broken())
    hall.carry(number)
    if len(hall.told()) > many_told:
        path = hall.told()[-1][0]
        return ",".join([str(place[0]) for place in path])
    if len(hall.broken()) > many_broken:
        return "broken"
    return "done"
