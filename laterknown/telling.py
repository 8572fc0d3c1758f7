"""What is told beforehand of the things that a stage makes, changes or replaces."""

from laterknown.addresses import coming_answer, ids_in, kind_of
from laterknown.evaluation import NoValue, Spot, value_of
from laterknown.staging import stage_in, survey_of
from laterknown.surveys import settled_survey
from laterknown.values import Record, alike

# What is told of a field of which nothing is known yet; no value is written so.
OPEN = "(open)"


class Later:
    """An answer that is to come."""

    def __init__(self, address, answer):
        self._address = address
        self._answer = answer

    @property
    def address(self):
        """The address whose answer it is."""
        return self._address

    @property
    def answer(self):
        """The name of the answer."""
        return self._answer

    def __eq__(self, other):
        return isinstance(other, Later) and self._address == other._address and self._answer == other._answer


def are_same(values):
    """Whether all of these values are alike."""
    return all([alike(value, values[0]) for value in values])


def later_answer(stage, values):
    """The pair (address, answer) of the answer to come that all rows give, None if there is none."""
    if isinstance(values[0], str) and values[0].startswith("#") and are_same(values):
        return coming_answer(values[0])
    for pair in stage.survey.asked.choices:
        texts = [case.row[pair] for case in stage.survey.cases]
        if alike(tuple(values), tuple(texts)):
            return pair
    return None


def has_coming(value):
    """Whether answers to come stand in a value that is the same under all rows."""
    return any([coming_answer(word) is not None for word in ids_in(value)])


def told_part(stage, values):
    """What is told of a field, or of a part of one, that has these values under the rows."""
    pair = later_answer(stage, values)
    if pair is not None:
        return Later(*pair)
    if are_same(values) and not has_coming(values[0]):
        return values[0]
    lengths = {len(value) if isinstance(value, tuple) else -1: True for value in values}
    if len(lengths) > 1 or -1 in lengths:
        return OPEN
    return tuple([told_part(stage, [value[at] for value in values]) for at in range(len(values[0]))])


def told_fields(stage, address):
    """The record of what is told of the fields of an address."""
    records = [case.standings[address].given for case in stage.survey.cases]
    parts = [(name, told_part(stage, [record[name] for record in records])) for name in records[0].names]
    return Record.of(tuple(parts))


def says_deny(case, expression, given):
    """Whether a rule says true of a thing with these fields."""
    try:
        return value_of(case, Spot(case.layout.root(), None, given), expression) is not False
    except NoValue:
        return True


def verdicts_of(stage):
    """What the rules say of the addresses that get new fields in a stage, as judged returns it."""
    found = []
    for address in stage.giving():
        for at, rule in enumerate(stage.survey.layout.rules):
            kind_name, expression = rule
            if kind_name == kind_of(address):
                cases = stage.survey.cases
                said = {says_deny(case, expression, case.standings[address].given): True for case in cases}
                found.append((address, at, word_of(list(said))))
    return tuple(sorted(found))


def word_of(said):
    """The word for a rule that says these bools, each under some row."""
    if len(said) > 1:
        return "open"
    return "denied" if said[0] else "allowed"


def judged(program, state):
    """What each rule says of each address that the stage makes, changes or replaces."""
    survey = survey_of(program, state)
    return judged_in(survey, stage_in(survey))


def judged_in(survey, stage):
    """What the rules say of the addresses that get new fields in the stage of a survey."""
    found = verdicts_of(stage)
    while survey.asked.has_grown:
        # A rule has asked for more than the fields do, so further rows have to be looked at.
        survey.settle()
        found = verdicts_of(stage_in(survey))
    return found


def says_false_always(survey, address):
    """Whether all rules for an address say false in all cases of a survey."""
    for kind_name, expression in survey.layout.rules:
        if kind_name == kind_of(address):
            for case in survey.cases:
                standing = case.standings.get(address, None)
                if standing is None or standing.given is None or says_deny(case, expression, standing.given):
                    return False
    return True


def is_allowed(program, state, address):
    """Whether all rules for an address that is wished say false under all rows."""
    if not [rule for rule in program.layout.rules if rule[0] == kind_of(address)]:
        return True
    survey = settled_survey(program, state)
    allowed = says_false_always(survey, address)
    while survey.asked.has_grown:
        # A rule has asked for more than the fields do, so further rows have to be looked at.
        survey.settle()
        allowed = says_false_always(survey, address)
    return allowed
