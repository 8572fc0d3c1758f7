"""What a program and a state say under one row of answers."""

from laterknown.addresses import address_at, coming_id, unknown_of
from laterknown.evaluation import NoValue, Spot, value_of

MOST_INSTANCES = 12

# The actions with which a new thing is made, those that give an address new fields, and those that delete the
# old thing ahead of anything else.
MAKING = ("make", "behind", "ahead")
GIVING = ("make", "behind", "ahead", "change")
DELETING = ("delete", "behind")


class Standing:
    """How an address stands under one row.

    Its fields are given unless it is not wished or has the fault evaluate. The word is that of its fault, None
    without one, and the deed is its action.
    """

    def __init__(self, given):
        self.given = given
        self.leaning = False
        self.replaced = False
        self.strict = False
        self.word = None
        self.deed = ""


class Case:
    """One row of answers, and all that holds under it.

    The row is a dict of texts and unknowns by pairs (address, answer). The shapes (shapes.py) of the sites, and
    signs that are the same in two cases just if the answers of the sites are, are told as they are written; the
    standings are told by their addresses.
    """

    def __init__(self, layout, recorded, asked, row):
        self.layout = layout
        self.recorded = recorded
        self.asked = asked
        self.row = row
        self.memo = {}
        self.shapes = {}
        self.signs = {}
        self.standings = {}

    def are_alike(self, one, other):
        """Whether two values are alike."""
        return self.asked.are_alike(one, other)

    def value_at(self, node, spot, expression):
        """The value of the expression of a node, which is evaluated once; raises NoValue."""
        if node not in self.memo:
            try:
                self.memo[node] = value_of(self, spot, expression)
            except NoValue:
                self.memo[node] = None
        if self.memo[node] is None:
            raise NoValue()
        return self.memo[node]

    def instances_of(self, site):
        """The indexes or keys of the instances of a site in their sequence, None for its only one."""
        if site.block.how == "":
            return (None,)
        many = self.value_at((site.written, site.block.how), Spot(site.ground, None, None), site.block.many)
        if site.block.how == "each":
            if len({key: True for key in many}) < len(many):
                raise NoValue()
            return many
        if isinstance(many, bool) or not isinstance(many, int) or not 0 <= many <= MOST_INSTANCES:
            raise NoValue()
        return tuple(range(many))

    def part_value(self, site, key, part):
        """The value of a field or an answer of an instance of a site; raises NoValue."""
        if part not in site.block.given:
            return self.answer_value(site, address_at(site.written, key), part)
        return self.value_at((site.written, key, part), Spot(site.ground, key, None), site.block.given[part])

    def answer_value(self, site, address, answer):
        """The value of an answer of an address; raises NoValue if the address has a fault."""
        standing = self.standings[address]
        if standing.given is None:
            raise NoValue()
        if address in self.recorded and not standing.replaced:
            return self.recorded[address].answers[answer]
        if answer in site.of_kind.fresh_answers:
            return coming_id(address, answer)
        self.asked.ask((address, answer))
        return self.row.get((address, answer), unknown_of(address, answer))
