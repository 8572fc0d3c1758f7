"""A desk: a house that is led by lines of words, and answers in lines."""

from laterknown.drift import drift
from laterknown.errors import BadLine
from laterknown.house import House
from laterknown.kinds import read_kinds
from laterknown.naming import fields_of_kind
from laterknown.running import TAKES_PLACE
from laterknown.texts import show_plan, show_state
from laterknown.worlds import World
from laterknown.writing import NotWritten, read_number, read_whole_record, read_whole_value

BETWEEN = " / "
DONE = "done"
NONE = "-"


def in_one_line(text):
    """A text of several lines in one."""
    return text.replace("\n", BETWEEN) if text != "" else NONE


def in_words(words):
    """These words with one blank between them."""
    return " ".join(words) if words else NONE


def say_undo(house, words):
    """Takes back the last deed."""
    house.undo()
    return DONE


def say_settle(house, words):
    """Settles."""
    house.settle()
    return DONE


def say_read(house, words):
    """Reads."""
    house.read()
    return DONE


def say_move(house, words):
    """Moves one address."""
    house.move(((words[0], words[1]),))
    return DONE


def say_plan(house, words):
    """Shows the plan."""
    return in_one_line(show_plan(house.plan()))


def say_state(house, words):
    """Shows the state."""
    return in_one_line(show_state(house.state))


def say_drift(house, words):
    """Tells the addresses that drifted."""
    return in_words([address for address, _ in drift(house.state, house.world)])


def say_remove(house, words):
    """Another hand removes a thing."""
    house.world.remove(read_number(words[0], 0))
    return DONE


def say_claim(house, words):
    """Claims a candidate for an address."""
    house.claim(words[0], read_number(words[1], 0))
    return DONE


def say_disown(house, words):
    """Disowns an address."""
    house.disown(words[0])
    return DONE


def say_takeback(house, words):
    """Takes a left thing back."""
    house.takeback(words[0], read_number(words[1], 0))
    return DONE


def say_take(house, words):
    """Takes a thing of the world."""
    house.take(words[0], read_number(words[1], 0))
    return DONE


# How many words stand behind the first one.
MANY_WORDS = {
    "undo": 0, "settle": 0, "read": 0, "plan": 0, "state": 0, "drift": 0, "remove": 1, "disown": 1, "move": 2,
    "claim": 2, "takeback": 2, "take": 2,
}
DEEDS = {
    "undo": say_undo, "settle": say_settle, "read": say_read, "plan": say_plan, "state": say_state,
    "drift": say_drift, "remove": say_remove, "disown": say_disown, "move": say_move, "claim": say_claim,
    "takeback": say_takeback, "take": say_take,
}


def say_wish(house, rest):
    """Wishes for the program that is written in one line."""
    house.wish(rest.replace(BETWEEN, "\n"))
    return DONE


def say_put(house, rest):
    """Another hand puts a thing of a kind."""
    word, _, text = rest.partition(" ")
    if word not in house.world.kinds:
        raise NotWritten()
    return str(house.world.put(word, read_whole_record(text, fields_of_kind(house.world.kinds[word]))))


def say_alter(house, rest):
    """Another hand alters a field of a thing."""
    words = rest.split(" ", 2)
    if len(words) < 3 or "" in words:
        raise NotWritten()
    number, value = read_number(words[0], 0), read_whole_value(words[2])
    world = house.world
    if number in world and words[1] not in fields_of_kind(world.kinds[world[number].kind]):
        raise NotWritten()
    world.alter(number, words[1], value)
    return DONE


WHOLE = {"wish": say_wish, "put": say_put, "alter": say_alter}


def say_run(house, troubles):
    """Runs the plan with these troubles."""
    if not all([trouble in TAKES_PLACE for trouble in troubles]):
        raise NotWritten()
    made = house.plan()
    words = tuple(troubles)
    return in_words([word for _, word in house.run(made, words)])


def say_line(house, line):
    """The answer to a line; raises NotWritten if it is of no form."""
    word, blank, rest = line.partition(" ")
    if word in WHOLE:
        if blank == "":
            raise NotWritten()
        work = WHOLE[word]
        return work(house, rest)
    words = line.split(" ")[1:]
    if "" in words:
        raise NotWritten()
    if word == "run":
        return say_run(house, words)
    if word not in DEEDS or len(words) != MANY_WORDS[word]:
        raise NotWritten()
    deed = DEEDS[word]
    return deed(house, words)


class Desk:
    """A house with an empty world of these kinds, that is told what to do in lines."""

    def __init__(self, kinds_text, free=()):
        self._house = House(World(read_kinds(kinds_text), free=free))

    def say(self, line):
        """The answer to a line, which may be any value."""
        if not isinstance(line, str):
            raise BadLine(line)
        try:
            return say_line(self._house, line)
        except NotWritten:
            raise BadLine(line) from None
