"""Worlds: the things that there are, the requests of a house, and other hands."""

from laterknown.addresses import ids_in_record
from laterknown.errors import NoThing, Refused
from laterknown.states import Entry
from laterknown.values import Record, alike, is_number


class World:
    """The things of these kinds that there are; the free answers of new things are taken from a tuple."""

    def __init__(self, kinds, *, free=()):
        self._kinds = kinds
        self._free = free
        self._things = {}
        # The numbers of things by the kinds and the tokens with which they were made.
        self._tokens = {}
        self._given = 0

    @property
    def kinds(self):
        """The kinds of the things."""
        return self._kinds

    @property
    def numbers(self):
        """The numbers of the things, ascending."""
        return tuple(sorted(list(self._things)))

    @property
    def last(self):
        """The greatest number of a thing that there is, 0 without things."""
        return max(list(self._things), default=0)

    def __getitem__(self, at):
        if at not in self:
            raise NoThing(at)
        return self._things[at]

    def __iter__(self):
        raise TypeError("a world is asked for its numbers")

    def __contains__(self, x):
        # What is no integer may have no hash, and Python takes True for 1.
        return is_number(x) and x in self._things

    def __len__(self):
        return len(self._things)

    def listed(self, kind):
        """The numbers of the things of a kind, ascending."""
        return tuple([number for number in self.numbers if self._things[number].kind == kind])

    def copy(self):
        """A world that is as this one is now, and goes its own way."""
        made = World(self._kinds, free=self._free)
        made._things = dict(self._things)
        made._tokens = {key: self._tokens[key] for key in self._tokens}
        made._given = self._given
        return made

    def number_made(self, kind, token):
        """The number of the thing of a kind that was made with a token, None if there is none."""
        return self._tokens.get((kind, token), None)

    def _check_there(self, number):
        if number not in self._things:
            raise Refused("missing")

    def _check_fixed(self, number, fields):
        entry = self._things[number]
        for name in self._kinds[entry.kind].fixed_fields:
            if not alike(entry.fields[name], fields[name]):
                raise Refused("fixed")

    def _check_unique(self, kind, number, fields):
        for other in self.listed(kind):
            if other != number:
                like = self._things[other].fields
                if any([alike(like[name], fields[name]) for name in self._kinds[kind].unique_fields]):
                    raise Refused("unique")

    def _check_held(self, number):
        entry = self._things[number]
        if self._kinds[entry.kind].held:
            ids = [entry.answers[name] for name in self._kinds[entry.kind].fresh_answers]
            for other, thing in self._things.items():
                if other != number and any([word in ids for word in ids_in_record(thing.fields)]):
                    raise Refused("held")

    def _alter_thing(self, number, fields):
        entry = self._things[number]
        self._check_unique(entry.kind, number, fields)
        self._things[number] = Entry(entry.kind, number, fields, entry.answers)

    def _free_answer(self):
        text = self._free[0] if self._free else ""
        self._free = self._free[1:]
        return text

    def make(self, kind, fields, token=None):
        """Makes a thing; with a token that a thing of the kind has, this thing is the one."""
        if token is not None and (kind, token) in self._tokens:
            return self._tokens[(kind, token)]
        self._check_unique(kind, 0, fields)
        self._given += 1
        number = self._given
        fresh = [(name, f"#{number}.{name}") for name in self._kinds[kind].fresh_answers]
        free = [(name, self._free_answer()) for name in self._kinds[kind].free_answers]
        self._things[number] = Entry(kind, number, fields, Record.of((*fresh, *free)))
        if token is not None:
            self._tokens[(kind, token)] = number
        return number

    def change(self, number, fields):
        """Gives a thing other fields."""
        self._check_there(number)
        self._check_fixed(number, fields)
        self._alter_thing(number, fields)

    def delete(self, number):
        """Deletes a thing, if it is there."""
        if number in self._things:
            self._check_held(number)
            del self._things[number]
            self._tokens = {key: made for key, made in self._tokens.items() if made != number}

    def put(self, kind, fields):
        """Another hand makes a thing."""
        return self.make(kind, fields)

    def alter(self, number, field, value):
        """Another hand gives a field of a thing another value."""
        self._check_there(number)
        altered = self._things[number].fields | Record.of(((field, value),))
        self._alter_thing(number, altered)

    def remove(self, number):
        """Another hand deletes a thing."""
        self._check_there(number)
        self.delete(number)
