"""Shapes: the instances of a block and their fields, as they are under one row or under many.

The fields of a block hang on the answers of other blocks alone. So they are evaluated once for all rows under
which these answers are the same, and what follows from the fields alone is found once, too.
"""

from laterknown.addresses import address_at, coming_answer, ids_in_record
from laterknown.evaluation import NoValue
from laterknown.values import Record


class Shape:
    """The addresses of a site and the fields of each; None for the fields that cannot be evaluated.

    A blocked site has no addresses, for its count or keys cannot be evaluated. For each address that has
    fields are told: the addresses whose fresh answers to come stand in the fields (coming), the numbers of the
    things that the fields hold (holding), the fields that are unlike the recorded ones (unlike), and with which
    other recorded things it has a unique value in common: pairs (field, number) (meeting).
    """

    def __init__(self, number, site, is_blocked):
        self.shape_number = number
        self.site = site
        self.is_blocked = is_blocked
        self.given = {}
        self.coming = {}
        self.holding = {}
        self.unlike = {}
        self.meeting = {}


class Shaper:
    """Makes the shapes of a program and a state; a site has one shape for the same fields."""

    def __init__(self, things, asked):
        self.things = things
        self.asked = asked
        self.made = {}
        self.known = {}
        self.clashes = {}

    def shape_of(self, case, site):
        """The shape of a site in a case in which all answers that the site hangs on are known."""
        key = (site.written, tuple([case.signs[written] for written in site.sources]))
        if key not in self.made:
            self.made[key] = self.known_shape(site, fields_of_site(case, site))
        return self.made[key]

    def known_shape(self, site, table):
        """The shape of a site with this table of fields by addresses, None if the site is blocked."""
        key = (site.written, written_fields(site, table))
        if key not in self.known:
            self.known[key] = self.new_shape(site, table)
        return self.known[key]

    def new_shape(self, site, table):
        """A shape that there was not yet."""
        shape = Shape(len(self.known), site, table is None)
        if table is not None:
            for address, given in table.items():
                self.take_up(shape, address, given)
        return shape

    def take_up(self, shape, address, given):
        """Takes up the fields of an address in a shape."""
        shape.given[address] = given
        if given is not None:
            marks = [coming_answer(word) for word in ids_in_record(given)]
            shape.coming[address] = list({mark[0]: True for mark in marks if mark is not None})
            shape.holding[address] = self.things.held_in(given, 0)
            shape.unlike[address] = self.unlike_recorded(shape.site, address, given)
            shape.meeting[address] = self.met_things(shape.site, address, given)

    def unlike_recorded(self, site, address, given):
        """The fields that are unlike those of the entry of an address."""
        if address not in self.things.recorded:
            return []
        recorded = self.things.recorded[address].fields
        return [name for name in site.field_names if not self.asked.are_alike(given[name], recorded[name])]

    def met_things(self, site, address, given):
        """The things of a kind that have a recorded value alike one of these in the same unique field."""
        found = []
        for number, thing in self.things.table.items():
            is_own = thing.place == address and not thing.is_left
            if thing.entry.kind == site.block.kind_name and not is_own:
                for name in site.of_kind.unique_fields:
                    if self.asked.are_alike(given[name], thing.entry.fields[name]):
                        found.append((name, number))
        return found

    def clashing(self, one, other):
        """The addresses of two shapes of a kind that have a unique value in common, each from either shape."""
        key = (one.shape_number, other.shape_number)
        if key not in self.clashes:
            found = {}
            for address, given in one.given.items():
                for further, like in other.given.items():
                    if address != further and self.has_clash(one.site.of_kind, given, like):
                        found[address] = True
                        found[further] = True
            self.clashes[key] = list(found)
        return self.clashes[key]

    def has_clash(self, of_kind, given, like):
        """Whether two wished things of a kind have a unique value in common."""
        if given is None or like is None:
            return False
        return any([self.asked.are_alike(given[name], like[name]) for name in of_kind.unique_fields])


def fields_of_site(case, site):
    """The fields of all instances of a site by their addresses, None if the site is blocked."""
    try:
        keys = case.instances_of(site)
    except NoValue:
        return None
    return {address_at(site.written, key): fields_under(case, site, key) for key in keys}


def written_fields(site, table):
    """A text that is the same for two tables of fields of a site just if the fields are alike."""
    if table is None:
        return ""
    rows = []
    for address, given in table.items():
        rows.append((address, None if given is None else tuple([given[name] for name in site.field_names])))
    # Python takes True for 1, but does not write them alike.
    return repr(rows)


def fields_under(case, site, key):
    """The fields of an instance of a site, None if one of them cannot be evaluated."""
    try:
        return Record.of(tuple([(name, case.part_value(site, key, name)) for name in site.field_names]))
    except NoValue:
        return None
