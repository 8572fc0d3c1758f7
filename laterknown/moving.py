"""Moves of addresses that keep things which would be deleted otherwise."""

from laterknown.addresses import block_of, kind_of
from laterknown.matching import matched
from laterknown.recording import with_addresses
from laterknown.staging import survey_of
from laterknown.surveys import settled_survey
from laterknown.values import alike, is_number

# What a set field costs that would have to be changed; a unique one costs more.
PRICE = 1
UNIQUE_PRICE = 7
MOST_PRICE = 42


class Search:
    """What is lost and what is new in a state, and on which level each new address stands."""

    def __init__(self, program, state):
        self.given = program
        self.at_first = state
        survey = survey_of(program, state)
        cases = survey.cases
        blocked = {name: True for case in cases for name, shape in case.shapes.items() if shape.is_blocked}
        wished = {}
        for case in cases:
            for shape in case.shapes.values():
                wished.update({address: True for address in shape.given})
        kept = {**wished, **{at: True for at in state.addresses if block_of(at) in blocked}}
        self.lost = [address for address in state.addresses if address not in kept]
        always = [address for address in wished if address not in state and is_wished_always(cases, address)]
        self.levels = levels_of(program.layout, sorted(always))

    def fits_on(self, level, moves):
        """The prices of the pairs (lost, new) that fit on a level, with these moves made before."""
        state = with_addresses(self.at_first, dict(moves))
        survey = settled_survey(self.given, state)
        found = {}
        for new in self.levels[level]:
            records = [given_in(case, new) for case in survey.cases]
            kind = self.given.kinds[kind_of(new)]
            for lost in self.lost_on(moves):
                if kind_of(lost) == kind_of(new):
                    recorded = state[lost].fields
                    if all([is_kept(records, recorded, name) for name in kind.fixed_fields]):
                        found[(lost, new)] = price_of(kind, records, recorded)
        return found

    def lost_on(self, moves):
        """The lost addresses that no move takes up."""
        taken = [old for old, _ in moves]
        return [address for address in self.lost if address not in taken]


def is_wished_always(cases, address):
    """Whether an address is wished in all cases."""
    written = block_of(address)
    return all([address in case.shapes[written].given for case in cases])


def given_in(case, address):
    """The fields of an address in a case, None if it has none."""
    standing = case.standings.get(address, None)
    return None if standing is None else standing.given


def is_kept(records, recorded, name):
    """Whether a field has the same value in all of these records, alike the recorded one."""
    return all([record is not None and alike(record[name], recorded[name]) for record in records])


def price_of(kind, records, recorded):
    """What the set fields cost that are not kept."""
    dear = [name for name in kind.set_fields if not is_kept(records, recorded, name)]
    return sum([UNIQUE_PRICE if name in kind.unique_fields else PRICE for name in dear])


def levels_of(layout, addresses):
    """The new addresses of each level."""
    sites = [site for site in layout.sites.values() if [at for at in addresses if block_of(at) == site.written]]
    known = {}
    # A block leads only to blocks of lesser depth, so these come first.
    for site in sorted(sites, key=lambda one: one.depth):
        known[site.written] = 1 + max([known[source] for source in site.sources if source in known], default=-1)
    many = max(list(known.values()), default=-1) + 1
    return [[at for at in addresses if known[block_of(at)] == level] for level in range(many)]


def weights_of(prices):
    """The weights of pairs with these prices: more pairs weigh more than fewer, whatever their prices are."""
    most = 1 + MOST_PRICE * len(prices)
    return {pair: most - price for pair, price in prices.items()}


def suggested_moves(program, state):
    """The moves that are suggested, level by level, each with evidence that no others are better."""
    search = Search(program, state)
    moves = []
    found = []
    for level, news in enumerate(search.levels):
        pairs, evidence = matched(search.lost_on(moves), news, weights_of(search.fits_on(level, moves)))
        found.append((pairs, evidence))
        moves.extend(pairs)
    return tuple(found)


def is_pair_of(value, is_second):
    """Whether any value is a pair of a string and of what is_second takes."""
    return isinstance(value, tuple) and len(value) == 2 and isinstance(value[0], str) and is_second(value[1])


def is_string(value):
    """Whether any value is a string."""
    return isinstance(value, str)


def is_ascending(value, is_second):
    """Whether any value is an ascending tuple of pairs of a string and of what is_second takes."""
    if not isinstance(value, tuple) or not all([is_pair_of(pair, is_second) for pair in value]):
        return False
    return all([pair < further for pair, further in zip(value, value[1:])])


def are_all_of(pairs, names):
    """Whether the first parts of pairs are just these names, each once."""
    return sorted([pair[0] for pair in pairs]) == sorted(names)


def is_level(value):
    """Whether any value has the form of a level: pairs and evidence."""
    if not isinstance(value, tuple) or len(value) != 2:
        return False
    return is_ascending(value[0], is_string) and is_ascending(value[1], is_number)


def shows_level(search, level, moves, value):
    """Whether the pairs of a level are the best ones, by its evidence."""
    pairs, evidence = value
    weights = weights_of(search.fits_on(level, moves))
    if not all([pair in weights for pair in pairs]) or not is_one_to_one(pairs):
        return False
    if not are_all_of(evidence, [*search.lost_on(moves), *search.levels[level]]):
        return False
    worths = dict(evidence)
    if not all([worth >= 0 for worth in worths.values()]):
        return False
    if not all([worths[lost] + worths[new] >= weight for (lost, new), weight in weights.items()]):
        return False
    return sum(list(worths.values())) == sum([weights[pair] for pair in pairs])


def is_one_to_one(pairs):
    """Whether no address stands in two pairs."""
    names = [name for pair in pairs for name in pair]
    return len({name: True for name in names}) == len(names)


def shows_moves(program, state, value):
    """Whether any value is what may be suggested: the best moves of all levels, with evidence."""
    search = Search(program, state)
    if not isinstance(value, tuple) or len(value) != len(search.levels) or not all([is_level(part) for part in value]):
        return False
    moves = []
    for level, part in enumerate(value):
        if not shows_level(search, level, moves, part):
            return False
        moves.extend(part[0])
    return True
