"""Surveys: how all addresses of a program and a state stand under all rows of answers."""

from laterknown.addresses import block_of, unknown_of
from laterknown.asking import Asked
from laterknown.cases import Case, Standing
from laterknown.leaning import Leaning
from laterknown.shapes import Shaper
from laterknown.things import Things

# The actions with which the thing of an address ends.
ENDING = ("delete", "behind", "ahead")


class Survey:
    """The cases, one for each row that has to be looked at; what these hang on is taken up as asked."""

    def __init__(self, program, state, asked):
        self.layout = program.layout
        self.things = Things(program.kinds, state)
        self.asked = asked
        self.shaper = Shaper(self.things, asked)
        self.sign_numbers = {}
        self.cases = []

    def settle(self):
        """Looks at rows until no further ones have to be looked at."""
        while self.asked.has_grown:
            self.asked.begin_anew()
            self.settle_rows(self.asked.rows())

    def settle_rows(self, rows):
        """Looks at these rows; returns whether other rows matter for what holds under them."""
        self.cases = [Case(self.layout, self.things.recorded, self.asked, row) for row in rows]
        leaning = Leaning(self.layout, self.things, self.asked, self.cases)
        for depth in self.layout.depths():
            self.settle_depth(self.layout.sites_of_depth(depth), leaning)
        for case in self.cases:
            self.finish(case)
        return leaning.looks_at_others

    def case_under(self, row):
        """The case of one of the given rows."""
        wanted = {pair: row.get(pair, unknown_of(*pair)) for pair in self.asked.choices}
        return [case for case in self.cases if case.row == wanted][0]

    def settle_depth(self, sites, leaning):
        """Settles the addresses of all sites of one depth; those of lesser depth are settled."""
        for case in self.cases:
            for site in sites:
                shape = self.shaper.shape_of(case, site)
                case.shapes[site.written] = shape
                for address, given in shape.given.items():
                    case.standings[address] = Standing(given)
        for case in self.cases:
            for site in sites:
                shape = case.shapes[site.written]
                for address, unlike in shape.unlike.items():
                    if address in self.things.recorded:
                        leans = leaning.leans(case, address)
                        settle_standing(case.standings[address], site.of_kind, unlike, leans)
                case.signs[site.written] = self.sign_of(case, shape)

    def sign_of(self, case, shape):
        """A number that is the same for two cases just if all answers of a site, which has this shape, are."""
        replaced = tuple([case.standings[address].replaced for address in shape.given])
        texts = tuple([text for pair, text in case.row.items() if block_of(pair[0]) == shape.site.written])
        key = (shape.shape_number, replaced, texts)
        return self.sign_numbers.setdefault(key, len(self.sign_numbers))

    def finish(self, case):
        """Tells the faults and the actions in a case in which all wished addresses are settled."""
        for address in self.things.recorded.addresses:
            if address not in case.standings:
                case.standings[address] = Standing(None)
        clashing = self.clashing_addresses(case)
        for address, standing in case.standings.items():
            shape = case.shapes.get(block_of(address), None)
            standing.deed = self.bare_deed(address, standing, shape)
            if cannot_be_evaluated(address, standing, shape):
                standing.word = "evaluate"
            elif address in clashing:
                standing.word = "unique"
            elif standing.deed in ENDING and self.things.of_kind[self.things.number_at(address)].guarded:
                standing.word = "guarded"
            if standing.word is not None:
                standing.deed = "fault"

    def bare_deed(self, address, standing, shape):
        """The action that an address would have without faults; the shape is that of its block, if there is one."""
        if shape is None or address not in shape.given:
            return "delete"
        if address not in self.things.recorded:
            return "make"
        if standing.replaced:
            return "behind" if standing.strict else "ahead"
        return "change" if shape.unlike.get(address, ()) else "none"

    def clashing_addresses(self, case):
        """The wished addresses that have a unique value in common with another one."""
        found = {}
        shapes = [shape for shape in case.shapes.values() if shape.site.of_kind.unique_fields]
        for at, one in enumerate(shapes):
            for other in shapes[at:]:
                if one.site.block.kind_name == other.site.block.kind_name:
                    found.update({address: True for address in self.shaper.clashing(one, other)})
        return found


def survey_with(program, state, given):
    """A survey among whose rows are the given ones, dicts of texts by pairs (address, answer)."""
    return Survey(program, state, Asked(used_texts(program, state, given), given))


def settled_survey(program, state, given=()):
    """A survey that has looked at all rows, the given ones among them."""
    survey = survey_with(program, state, given)
    survey.settle()
    return survey


def case_of_row(program, state, row):
    """The case of one row, a dict of texts by pairs."""
    survey = survey_with(program, state, (row,))
    if not survey.settle_rows([row]):
        return survey.cases[0]
    return settled_survey(program, state, (row,)).case_under(row)


def settle_standing(standing, of_kind, unlike, leans):
    """Tells whether an address that has an entry is replaced, and how, by its fields unlike the recorded ones."""
    keeps_unique = not all([name in unlike for name in of_kind.unique_fields])
    standing.leaning = leans
    standing.replaced = leans or any([name in unlike for name in of_kind.fixed_fields])
    standing.strict = standing.replaced and (leans or of_kind.single or keeps_unique)


def cannot_be_evaluated(address, standing, shape):
    """Whether an address has the fault evaluate; the shape is that of its block, if there is one."""
    if shape is None:
        return False
    return shape.is_blocked or (address in shape.given and standing.given is None)


def used_texts(program, state, given):
    """The texts of a program, of a state and of rows, with whatever else stands there as strings."""
    taken = {}
    ahead = [line.expression for line in program.lines if line.expression is not None]
    while ahead:
        form, told, parts = ahead.pop()
        if form == "text":
            taken[told] = True
        ahead.extend(parts)
    for entry in [*[state[address] for address in state.addresses], *[entry for _, entry in state.left]]:
        for record in (entry.fields, entry.answers):
            for name in record.names:
                take_texts(taken, record[name])
    for row in given:
        for text in row.values():
            taken[text] = True
    return taken


def take_texts(taken, value):
    """Takes up the strings in a value."""
    if isinstance(value, tuple):
        for part in value:
            take_texts(taken, part)
    elif isinstance(value, str):
        taken[value] = True
