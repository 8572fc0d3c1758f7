"""Evidence for what waits: why it cannot be in the stage that comes next."""

from laterknown.answers import is_row, written_row
from laterknown.cases import DELETING, GIVING, MAKING
from laterknown.errors import NotWaiting
from laterknown.rings import ring_through
from laterknown.staging import check_settled, common_deed, settled_stage
from laterknown.surveys import settled_survey
from laterknown.values import is_number

STEP_WORDS = ("make", "change", "delete")
# How many rows stand at the beginning of the evidence of each word.
MANY_ROWS = {"actions": 2, "fault": 1, "fields": 2, "coming": 1, "held": 0, "unique": 1, "ring": 0}
# How many parts stand behind the rows.
MANY_PARTS = {"actions": 0, "fault": 0, "fields": 0, "coming": 1, "held": 1, "unique": 1, "ring": 1}


class Witness:
    """Tells of one thing that waits what keeps it out of a stage."""

    def __init__(self, stage, place):
        self.stage = stage
        self.place = place
        self.things = stage.things
        self.cases = stage.survey.cases
        self.deed = common_deed(self.cases, place)
        self.left_number = None
        for number, thing in self.things.table.items():
            if thing.is_left and place == f"left {number}":
                self.left_number = number

    def deed_in(self, case):
        """The action of the address in a case, no word if it has none."""
        return case.standings[self.place].deed if self.place in case.standings else ""

    def has_fault(self, case):
        """Whether the address has a fault in a case, or the block cannot be evaluated."""
        return self.deed_in(case) == "fault" or (self.place in case.shapes and case.shapes[self.place].is_blocked)

    def given_in(self, case):
        """The fields of the address in a case, None without fields."""
        return case.standings[self.place].given if self.place in case.standings else None

    def differ(self, case, other):
        """Whether the address has fields in both cases, and unlike ones."""
        one, like = self.given_in(case), self.given_in(other)
        return one is not None and like is not None and one != like

    def missing_in(self, case):
        """The addresses whose answers to come the fields have in a case, and which the stage does not make."""
        if self.given_in(case) is None:
            return []
        coming = self.shape_in(case).coming[self.place]
        return [address for address in coming if self.stage.deeds.get(address, "") not in MAKING]

    def shape_in(self, case):
        """The shape of the block of an address that has fields in a case."""
        return [shape for shape in case.shapes.values() if self.place in shape.given][0]

    def ending_number(self):
        """The number of the thing that would be deleted or dropped, None if there is none."""
        if self.left_number is not None:
            return self.left_number
        return self.things.number_at(self.place) if self.deed in DELETING else None

    def firm_holders(self):
        """The numbers of the things that hold what would end, and do not let it go."""
        number = self.ending_number()
        if number is None or not self.things.of_kind[number].held:
            return []
        holders = self.things.holders[number]
        return [holder for holder in holders if self.stage.step_of_letting(holder, number) is None]

    def met_in(self, case):
        """The numbers of the things that stay and have a new unique value of the address in a case."""
        if self.deed not in GIVING:
            return []
        prospect = self.stage.prospects[self.place]
        meeting = self.shape_in(case).meeting[self.place]
        new = [met for met in meeting if self.deed in MAKING or met[0] in prospect.touched]
        return [number for name, number in new if self.stage.step_of_giving_up(number, name) is None]

    def own_steps(self):
        """The steps that it could have."""
        if self.left_number is not None:
            return [("drop", self.left_number)]
        return [(word, self.place) for word in STEP_WORDS]

    def ring(self):
        """A ring of steps with one of its own, () if no round has one."""
        for behind in self.stage.rounds:
            for step in self.own_steps():
                if step in behind and ring_through(behind, step):
                    # In a ring each step leads to one behind which it must come, so the ring is turned round.
                    return tuple(reversed(list(ring_through(behind, step))))
        return ()


def found_in_one_row(witness):
    """Evidence that shows under one row, None if there is none."""
    for case in witness.cases:
        row = written_row(case.row)
        if witness.has_fault(case):
            return "fault", row
        for address in witness.missing_in(case):
            return "coming", row, address
        for number in witness.met_in(case):
            return "unique", row, number
    return None


def found_in_two_rows(witness):
    """Evidence that shows if two rows are compared, None if there is none."""
    first = witness.cases[0]
    pairs = [pair for pair in first.row if witness.stage.deeds.get(pair[0], "") in MAKING]
    known = {}
    for case in witness.cases:
        if witness.deed_in(case) != witness.deed_in(first):
            return "actions", written_row(first.row), written_row(case.row)
        if witness.given_in(case) is not None:
            other = known.setdefault(tuple([case.row[pair] for pair in pairs]), case)
            if witness.differ(case, other):
                return "fields", written_row(other.row), written_row(case.row)
    return None


def found_evidence(witness):
    """Any evidence for what waits."""
    found = found_in_two_rows(witness)
    if found is None:
        found = found_in_one_row(witness)
    if found is not None:
        return found
    for number in witness.firm_holders():
        return "held", number
    return "ring", witness.ring()


def why(program, state, waiting):
    """Any evidence for something that waits."""
    check_settled(state)
    stage = settled_stage(settled_survey(program, state))
    if not is_waiting(stage, waiting):
        raise NotWaiting(waiting)
    return found_evidence(Witness(stage, waiting))


def is_waiting(stage, waiting):
    """Whether any value is the name of something that waits."""
    return isinstance(waiting, str) and waiting in stage.waiting_names()


def rows_of(value):
    """The rows of any value of the form of evidence, as dicts; None if it has not this form."""
    if not isinstance(value, tuple) or not value or not isinstance(value[0], str) or value[0] not in MANY_ROWS:
        return None
    many = MANY_ROWS[value[0]]
    if len(value) != 1 + many + MANY_PARTS[value[0]] or not all([is_row(row) for row in value[1:1 + many]]):
        return None
    return tuple([dict(row) for row in value[1:1 + many]])


def agree_on_stage(stage, one, other):
    """Whether two rows agree on all free answers of the addresses that a stage makes or replaces."""
    for address, deed in stage.deeds.items():
        if deed in MAKING:
            for answer in free_answers(stage, address):
                if one.get((address, answer), None) != other.get((address, answer), None):
                    return False
    return True


def free_answers(stage, address):
    """The free answers of an address of a stage that gets fields."""
    shapes = [shape for shape in stage.survey.cases[0].shapes.values() if address in shape.given]
    return shapes[0].site.of_kind.free_answers


def is_step(value):
    """Whether any value has the form of a step."""
    if not isinstance(value, tuple) or len(value) != 2 or not isinstance(value[0], str):
        return False
    if value[0] == "drop":
        return is_number(value[1])
    return value[0] in STEP_WORDS and isinstance(value[1], str)


def is_ring_of(behind, value):
    """Whether any value is a ring of the steps of a round: each comes directly behind the one before it."""
    if not isinstance(value, tuple) or not value or not all([is_step(step) for step in value]):
        return False
    if len({step: True for step in value}) < len(value) or not all([step in behind for step in value]):
        return False
    return all([step in behind[further] for step, further in zip(value, (*value[1:], value[0]))])


def shows_ring_of_steps(witness, value):
    """Whether any value is a ring of steps of a round, with a step of what waits."""
    if not any([is_ring_of(behind, value) for behind in witness.stage.rounds]):
        return False
    return any([step in value for step in witness.own_steps()])


def shows_word(witness, value, rows):
    """Whether what has the form of evidence shows; the rows are those that stand in it."""
    word = value[0]
    cases = [witness.stage.survey.case_under(row) for row in rows]
    if word == "actions":
        return witness.deed_in(cases[0]) != witness.deed_in(cases[1])
    if word == "fault":
        return witness.has_fault(cases[0])
    if word == "fields":
        return agree_on_stage(witness.stage, *rows) and witness.differ(*cases)
    if word == "coming":
        return isinstance(value[2], str) and value[2] in witness.missing_in(cases[0])
    if word == "held":
        return is_number(value[1]) and value[1] in witness.firm_holders()
    if word == "unique":
        return is_number(value[2]) and value[2] in witness.met_in(cases[0])
    return shows_ring_of_steps(witness, value[1])


def shows_why(program, state, waiting, value):
    """Whether any value is evidence for any value as what waits."""
    check_settled(state)
    rows = rows_of(value)
    if rows is None:
        return False
    stage = settled_stage(settled_survey(program, state, rows))
    return is_waiting(stage, waiting) and shows_word(Witness(stage, waiting), value, rows)
