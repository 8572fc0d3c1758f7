"""Whether two programs say the same with the empty state, but for the names of addresses.

The second program is evaluated with the answers of the first one: what it asks for and compares is taken up as
asked of the addresses of the first one, so the rows of the first program are all that has to be looked at.
"""

from laterknown.addresses import kind_of
from laterknown.answers import written_row
from laterknown.asking import Asked
from laterknown.states import State
from laterknown.surveys import Survey, used_texts
from laterknown.telling import says_deny
from laterknown.values import Record


def with_names(value, names):
    """A value with other addresses in the answers to come that stand in it; names is a dict of addresses."""
    if isinstance(value, tuple):
        return tuple([with_names(part, names) for part in value])
    if isinstance(value, str) and (value.startswith("#") or value.startswith("?")):
        address, point, answer = value[1:].rpartition(".")
        return value[0] + names.get(address, address) + point + answer
    return value


class Echo:
    """Takes up what is asked of the new addresses as asked of the old ones, which are told by them."""

    def __init__(self, asked, olds):
        self.asked = asked
        self.olds = olds

    def ask(self, pair):
        """Takes up a free answer that is asked for."""
        if pair[0] in self.olds:
            self.asked.ask((self.olds[pair[0]], pair[1]))

    def are_alike(self, one, other):
        """Whether two values are alike; what this hangs on is taken up."""
        return self.asked.are_alike(with_names(one, self.olds), with_names(other, self.olds))


def is_one_to_one(leading, wished):
    """Whether pairs whose old addresses are wished have each of these once, and no new one twice."""
    olds = {old: True for old, new in leading}
    news = {new: True for old, new in leading}
    return len(leading) == len(olds) == len(news) == len(wished)


def many_denying(case, address):
    """How many rules deny an address that is wished."""
    given = case.standings[address].given
    # An address with the fault evaluate has no values, so a rule that names one cannot be evaluated either.
    known = Record() if given is None else given
    rules = [expression for kind_name, expression in case.layout.rules if kind_name == kind_of(address)]
    return len([expression for expression in rules if says_deny(case, expression, known)])


def has_blocked(case):
    """Whether a block of a case cannot be evaluated."""
    return any([shape.is_blocked for shape in case.shapes.values()])


class Comparison:
    """Looks for rows of answers under which two programs are not the same but for the names of addresses."""

    def __init__(self, one, other, pairs, given):
        self.one = one
        self.other = other
        self.pairs = {pair: True for pair in pairs}
        self.asked = Asked({**used_texts(one, State(), given), **used_texts(other, State(), ())}, given)

    def loud_row(self):
        """Any row under which they are not the same, None if there is none."""
        while self.asked.has_grown:
            self.asked.begin_anew()
            found = self.loud_among(self.asked.rows())
            if found is not None:
                return written_row(found)
        return None

    def loud_among(self, rows):
        """The first of these rows under which they are not the same, None if there is none."""
        survey = Survey(self.one, State(), self.asked)
        survey.settle_rows(rows)
        others = {}
        cases = list(survey.cases)
        for case in cases:
            leading = tuple([pair for pair in self.pairs if pair[0] in case.standings])
            if not is_one_to_one(leading, case.standings):
                return case.row
            if leading not in others:
                echo = Echo(self.asked, {new: old for old, new in leading})
                others[leading] = Survey(self.other, State(), echo)
            if not self.are_same(case, others[leading], {old: new for old, new in leading}):
                return case.row
        return None

    def are_same(self, case, survey, names):
        """Whether a case of the first program is the same as that of the second one under the same answers."""
        texts = {(names[pair[0]], pair[1]): text for pair, text in case.row.items() if pair[0] in names}
        survey.settle_rows([{pair: with_names(text, names) for pair, text in texts.items()}])
        like = survey.cases[0]
        if len(like.standings) != len(names) or has_blocked(case) != has_blocked(like):
            return False
        olds = {new: old for old, new in names.items()}
        return all([self.is_same_address(case, like, pair, olds) for pair in names.items()])

    def is_same_address(self, case, like, pair, olds):
        """Whether an address stands in one case as its new name does in the other one."""
        old, new = pair
        if new not in like.standings or kind_of(old) != kind_of(new):
            return False
        one, other = case.standings[old], like.standings[new]
        if one.word != other.word or not self.has_same_fields(one.given, other.given, olds):
            return False
        return many_denying(case, old) == many_denying(like, new)

    def has_same_fields(self, given, like, olds):
        """Whether the fields of an old address are those of its new one."""
        if given is None or like is None:
            return given is None and like is None
        return all([self.asked.are_alike(given[name], with_names(like[name], olds)) for name in given.names])
