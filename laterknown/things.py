"""The things that a state records, and which of them hold which."""

from laterknown.addresses import ids_in_record


class Thing:
    """A thing of a state: where it stands, or where it stood if it is left, and its entry."""

    def __init__(self, place, entry, is_left):
        self.place = place
        self.entry = entry
        self.is_left = is_left


class Things:
    """The things of a state by their numbers, the kinds by their names, and what holds what."""

    def __init__(self, kinds, state):
        self.recorded = state
        self.table = {state[place].number: Thing(place, state[place], False) for place in state.addresses}
        for place, entry in state.left:
            self.table[entry.number] = Thing(place, entry, True)
        self.of_kind = {number: kinds[thing.entry.kind] for number, thing in self.table.items()}
        self.owners = {}
        for number in self.table:
            for word in self.fresh_ids(number):
                self.owners[word] = number
        self.holding = {number: self.held_in(self.table[number].entry.fields, number) for number in self.table}
        self.holders = {number: [] for number in self.table}
        for number, held_ones in self.holding.items():
            for further in held_ones:
                self.holders[further].append(number)

    def fresh_ids(self, number):
        """The fresh answers of a thing."""
        answers = self.table[number].entry.answers
        return [answers[name] for name in self.of_kind[number].fresh_answers]

    def held_in(self, record, number):
        """The numbers of the things, but for this one, that are held by what has these fields."""
        found = {self.owners[word]: True for word in ids_in_record(record) if word in self.owners}
        return [further for further in found if further != number]

    def number_at(self, address):
        """The number of the thing of an address that has an entry."""
        return self.recorded[address].number

    def places_held(self, number):
        """The places of the things without left ones that a thing holds, directly or over left things."""
        found = {}
        seen = {number: True}
        ahead = [number]
        while ahead:
            holder = ahead.pop()
            for further in self.holding[holder]:
                if further not in seen:
                    seen[further] = True
                    if self.table[further].is_left:
                        ahead.append(further)
                    else:
                        found[self.table[further].place] = True
        return list(found)
