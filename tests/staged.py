"""Kinds, states and plans for the tests of stages."""

from laterknown.errors import Faulty, Ring, Stuck
from laterknown.kinds import read_kinds
from laterknown.programs import read_program
from laterknown.stages import plan
from laterknown.states import Entry, State, state_of
from laterknown.values import Record
from samples import lines

# Nets and pads are held, pads are single; boxes have a unique field, rocks are guarded, hubs are held and unique.
PLAIN = ("  fixed f", "  set u", "  set h", "  fresh id", "  free zone")
STAGED = read_kinds(lines(
    "kind net", *PLAIN, "  held", "kind pad", *PLAIN, "  held", "  single", "kind box", *PLAIN, "  unique u",
    "kind rock", *PLAIN, "  guarded", "kind hub", *PLAIN, "  held", "  unique u"))


def block(kind, name, f="1", u="0", h="0"):
    """The lines of a block; the name may have count or each behind it."""
    return (f"resource {kind} {name}", f"  f {f}", f"  u {u}", f"  h {h}")


def thing(number, f=1, u=0, h=0, zone="old"):
    """The parts of an entry."""
    return number, Record(f=f, u=u, h=h), Record(id=f"#{number}.id", zone=zone)


def staged_state(entries, left=()):
    """A state with these entries (a dict) and these left things (pairs)."""
    state = state_of(STAGED, tuple([(address, *parts) for address, parts in entries.items()]))
    kept = [(address, Entry(address.split(".")[0], *parts)) for address, parts in left]
    return State().renewed({address: state[address] for address in state.addresses}, tuple(kept), ())


def staged_program(*rows):
    return read_program(STAGED, lines(*rows))


def planned(rows, entries, left=()):
    """The steps and what waits; for errors their name, and their values."""
    try:
        found = plan(staged_program(*rows), staged_state(entries, left))
    except Faulty as error:
        return "Faulty", error.value, error.word
    except Ring as error:
        return "Ring", sorted(error.value)
    except Stuck as error:
        return "Stuck", error.value
    return [" ".join([step[0], str(step[1])]) for step in found.steps], list(found.waiting)
