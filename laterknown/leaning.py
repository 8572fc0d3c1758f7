"""Which addresses lean: they hold what has to go, and their new fields hang on what is made behind it."""

from laterknown.addresses import block_of


class Leaning:
    """Tells which addresses lean in cases in which all addresses of lesser depth are settled."""

    def __init__(self, layout, things, asked, cases):
        self.layout = layout
        self.things = things
        self.asked = asked
        self.cases = cases
        self.groups = {}
        self.looks_at_others = False

    def leans(self, case, address):
        """Whether an address that is wished and has an entry leans in a case."""
        depth = self.site_at(address).depth
        places = self.things.places_held(self.things.number_at(address))
        members = {place: True for place in places if self.is_strictly_held(case, place, depth)}
        if not members:
            return False
        self.looks_at_others = True
        lower = [place for place in case.standings if self.is_new(case, place) and self.site_at(place).depth < depth]
        has_grown = True
        while has_grown:
            further = [place for place in lower if place not in members and self.hangs_on(case, place, members)]
            members = {**members, **{place: True for place in further}}
            has_grown = bool(further)
        return self.hangs_on(case, address, members)

    def site_at(self, address):
        """The site of a wished address."""
        return self.layout.sites[block_of(address)]

    def is_strictly_held(self, case, place, depth):
        """Whether an address that has an entry is strict, of a held kind and of lesser depth than this one."""
        if place not in case.standings or not case.standings[place].strict:
            return False
        site = self.site_at(place)
        return site.of_kind.held and site.depth < depth

    def is_new(self, case, place):
        """Whether a wished address is made or replaced."""
        standing = case.standings[place]
        return standing.given is not None and (standing.replaced or place not in self.things.recorded)

    def hangs_on(self, case, address, members):
        """Whether an address has answers to come of these ones in its fields, or another outcome by free ones."""
        written = block_of(address)
        shape = case.shapes[written]
        if [place for place in shape.coming[address] if place in members]:
            return True
        others = {other.shapes[written].shape_number: other.shapes[written] for other in self.like(case, members)}
        for other in others.values():
            given = other.given.get(address)
            if given is None or not self.asked.are_alike_records(shape.given[address], given):
                return True
        return False

    def like(self, case, members):
        """The cases whose rows differ from that of a case only in free answers of these addresses."""
        pairs = tuple([pair for pair in case.row if pair[0] not in members])
        if pairs not in self.groups:
            self.groups[pairs] = {}
            for other in self.cases:
                texts = tuple([other.row[pair] for pair in pairs])
                self.groups[pairs].setdefault(texts, []).append(other)
        return self.groups[pairs][tuple([case.row[pair] for pair in pairs])]
