"""Which rows of answers have to be looked at.

Rows are endless, but only equality of texts is ever asked. So it suffices to know which free answers were
asked for, and for each of them the texts with which it was compared while it was like no other text. To these
come an answer that is not listed (it is an unknown then), and one text that stands nowhere else.
"""

from laterknown.addresses import unknown_of
from laterknown.values import alike, is_text


class Asked:
    """The free answers that were asked for: pairs (address, answer), each with the texts that matter for it.

    The used texts are those of the program, the state and the given rows (dicts of texts by pairs).
    """

    def __init__(self, used_texts, given):
        self.used_texts = used_texts
        self.given = given
        self.choices = {}
        self.owners = {}
        self.has_grown = True

    def unused_text(self):
        """A text that stands nowhere yet."""
        many = 0
        while f"new-{many}" in self.used_texts:
            many += 1
        self.used_texts[f"new-{many}"] = True
        return f"new-{many}"

    def begin_anew(self):
        """Forgets that anything was taken up, ahead of another look at all rows."""
        self.has_grown = False

    def ask(self, pair):
        """Takes up a free answer that is asked for."""
        if pair not in self.choices:
            self.choices[pair] = [unknown_of(*pair), self.unused_text()]
            for generic in self.choices[pair]:
                self.owners[generic] = pair
            for row in self.given:
                if pair in row:
                    self.widen(pair, row[pair])
            self.has_grown = True

    def widen(self, pair, text):
        """Takes up a text that matters for a free answer."""
        if text not in self.choices[pair]:
            self.choices[pair].append(text)
            self.has_grown = True

    def note(self, one, other):
        """Takes up that a value was compared with an unlike one, if it stands for any text of an answer."""
        if one in self.owners and is_text(other):
            self.widen(self.owners[one], other)

    def are_alike(self, one, other):
        """Whether two values are alike; what this hangs on is taken up."""
        if isinstance(one, tuple) and isinstance(other, tuple):
            if len(one) != len(other):
                return False
            for part, like in zip(one, other):
                if not self.are_alike(part, like):
                    return False
            return True
        if alike(one, other):
            return True
        self.note(one, other)
        self.note(other, one)
        return False

    def are_alike_records(self, one, other):
        """Whether two records of the same names have alike parts; what this hangs on is taken up."""
        for name in one.names:
            if not self.are_alike(one[name], other[name]):
                return False
        return True

    def rows(self):
        """The rows that have to be looked at, the empty one first: dicts by pairs.

        What a row does not list is an unknown there.
        """
        found = [{}]
        for pair, texts in self.choices.items():
            found = [{**row, pair: text} for row in found for text in texts]
        return found
