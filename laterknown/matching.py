"""Which pairs have the greatest weight together, and integers that show that no others have more.

The weights are a dict of pairs (one, other). The integers of both sides are from 0 on; for each pair with a
weight those of its sides are together at least the weight, and all integers together are the sum of the weights
of the chosen pairs.
"""


class Matching:
    """Chooses a place for each row, one row after the other, so that the places have the least cost together.

    A place is another side with which a row may be paired, or one of the free places, which cost nothing. There
    is one free place more than rows, so that one is left over in the end.
    """

    def __init__(self, rows, places, weights):
        self.order = rows
        self.places = places
        self.weights = weights
        self.row_worth = {row: 0 for row in range(len(rows))}
        self.many = len(places) + len(rows) + 1
        self.place_worth = {place: 0 for place in range(self.many)}
        self.row_at = {}

    def cost(self, row, place):
        """What a row costs at a place."""
        if place >= len(self.places):
            return 0
        return -self.weights.get((self.order[row], self.places[place]), 0)

    def choose(self):
        """Finds the places of all rows."""
        for row in range(len(self.order)):
            self.add_row(row)

    def add_row(self, row):
        """Finds places for one row more; others may have to change theirs."""
        slack, before, seen = {}, {}, {}
        last, at = None, row
        while at is not None:
            nearest = self.nearest_place(at, last, slack, before, seen)
            self.shift(row, slack, seen, nearest)
            seen[nearest] = True
            last = nearest
            at = self.row_at.get(nearest, None)
        while last is not None:
            earlier = before[last]
            self.row_at[last] = row if earlier is None else self.row_at[earlier]
            last = earlier

    def nearest_place(self, at, last, slack, before, seen):
        """The place that needs the least change of worths to be reached, with this row taken up."""
        nearest = None
        for place in range(self.many):
            if place not in seen:
                rest = self.cost(at, place) - self.row_worth[at] - self.place_worth[place]
                if place not in slack or rest < slack[place]:
                    slack[place] = rest
                    before[place] = last
                if nearest is None or slack[place] < slack[nearest]:
                    nearest = place
        return nearest

    def shift(self, row, slack, seen, nearest):
        """Changes the worths so that the nearest place costs nothing more."""
        step = slack[nearest]
        self.row_worth[row] += step
        for place in seen:
            self.row_worth[self.row_at[place]] += step
            self.place_worth[place] -= step
        for place in list(slack):
            if place not in seen:
                slack[place] -= step


def matched(ones, others, weights):
    """The chosen pairs, ascending, and the integers of all of both sides, ascending."""
    rows = sorted(list({pair[0]: True for pair in weights}))
    places = sorted(list({pair[1]: True for pair in weights}))
    matching = Matching(rows, places, weights)
    matching.choose()
    pairs = []
    for place, row in matching.row_at.items():
        if place < len(places) and (rows[row], places[place]) in weights:
            pairs.append((rows[row], places[place]))
    worths = {name: 0 for name in [*ones, *others]}
    worths.update({rows[row]: -worth for row, worth in matching.row_worth.items()})
    for at, name in enumerate(places):
        worths[name] = -matching.place_worth[at]
    return tuple(sorted(pairs)), tuple(sorted([(name, worth) for name, worth in worths.items()]))
