"""Houses for the tests: kinds, programs, and what came of runs."""

from laterknown.house import House
from laterknown.kinds import read_kinds
from laterknown.texts import read_state, show_state
from laterknown.worlds import World
from samples import lines

# Nets are held and have a free answer, boxes have a unique label and can be made again with a token, rocks are plain.
HOUSED = read_kinds(lines(
    "kind net", "  fixed range", "  set size", "  fresh id", "  free zone", "  held",
    "kind box", "  set size", "  fixed net", "  set label", "  fresh id", "  unique label", "  token",
    "kind rock", "  set size", "  fixed net", "  fresh id",
    "kind pad", "  fixed range", "  fresh id", "  single",
    "kind wall", "  set size", "  guarded"))


def net(name, range="1", size="1"):
    return (f"resource net {name}", f"  range {range}", f"  size {size}")


def box(name, size="1", net="2", label='"a"'):
    return (f"resource box {name}", f"  size {size}", f"  net {net}", f"  label {label}")


def rock(name, size="1", net="2"):
    return (f"resource rock {name}", f"  size {size}", f"  net {net}")


def pad(name, range="1"):
    return (f"resource pad {name}", f"  range {range}")


def a_house(*rows, free=("eu", "us")):
    """A house in which these lines are wished for, if there are some."""
    house = House(World(HOUSED, free=free))
    if rows:
        house.wish(lines(*rows))
    return house


def settled_house(*rows, free=("eu", "us")):
    """A house in which these lines were wished for, and all stages were run."""
    house = a_house(*rows, free=free)
    finish(house)
    return house


def finish(house):
    """Runs all stages; returns the words for what came of them."""
    words = []
    while house.plan():
        words.extend(ran(house))
    return words


def ran(house, *troubles):
    """What came of a run with these troubles: `make net.z done` and so on."""
    return [f"{step[0]} {step[1]} {word}" for step, word in house.run(house.plan(), troubles)]


def shown(house):
    """All that can be seen of a house: what is recorded, and the things that there are."""
    world = house.world
    things = [f"{number} {world[number].kind} {[(name, world[number].fields[name]) for name in world[number].fields.names]}"
              for number in world.numbers]
    return show_state(house.state), things, house.program


def recorded(house, *rows):
    """Gives a house this state, which is written in lines."""
    house._ledger.record(read_state(house.world.kinds, lines(*rows)))
