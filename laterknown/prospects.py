"""What is ahead for an address under all rows together."""

from laterknown.addresses import block_of


class Prospect:
    """The new fields of an address that is made, changed or replaced under all rows.

    Told are: for each case the sort of its fields, the same number where they are alike (sorts), and whether
    there are several (varies); the addresses whose fresh answers to come they have under some row (coming); the
    numbers of the things that they hold under some row (holding); the things with which they meet in a unique
    value under some row (meeting); and the fields that are unlike the recorded ones under some row (touched)
    and under all rows (altered).
    """

    def __init__(self, address, shapes):
        self.coming = {}
        self.holding = {}
        self.meeting = {}
        self.touched = {}
        for shape in shapes.values():
            self.coming.update({further: True for further in shape.coming[address]})
            self.holding.update({number: True for number in shape.holding[address]})
            self.meeting.update({met: True for met in shape.meeting[address]})
            self.touched.update({name: True for name in shape.unlike[address]})
        unlike = [shape.unlike[address] for shape in shapes.values()]
        self.altered = [name for name in self.touched if all([name in names for names in unlike])]
        self.sorts = []
        self.varies = False

    def sort_fields(self, address, cases):
        """Tells the sort of the fields in each case."""
        written = block_of(address)
        known = {}
        kept = []
        for case in cases:
            shape = case.shapes[written]
            if shape.shape_number not in known:
                known[shape.shape_number] = place_of(shape.given[address], kept)
            self.sorts.append(known[shape.shape_number])
        self.varies = len(kept) > 1


def place_of(given, kept):
    """The place of a record among those that are kept, behind which it is added if it is alike none."""
    for at, like in enumerate(kept):
        if given == like:
            return at
    kept.append(given)
    return len(kept) - 1


def prospect_of(address, cases):
    """The prospect of an address that has fields in all of these cases."""
    written = block_of(address)
    shapes = {case.shapes[written].shape_number: case.shapes[written] for case in cases}
    prospect = Prospect(address, shapes)
    prospect.sort_fields(address, cases)
    return prospect
