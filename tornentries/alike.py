"""What parts two trees first."""

from tornentries.kinds import KNOWN, has_chains
from tornentries.trees import entry_of


def first_unlike(one, other, *, known=KNOWN):
    """The first place that parts these two trees, or None."""
    pairing = Pairing(one[0] == other[0], known)
    return pairing.chain_unlike(one[1], other[1], ())


class Pairing:
    """Goes along two trees at once; raw entries can be alike only where both have the same order."""

    def __init__(self, same_order, known):
        self.same_order = same_order
        self.known = known

    def chain_unlike(self, one, other, start):
        """What parts two chains first; start with a number behind it is the path of a table."""
        for n, (table, mate) in enumerate(zip(one, other)):
            found = self.table_unlike(table, mate, start + (n,))
            if found is not None:
                return found
        if len(one) != len(other):
            return ("table", start + (min(len(one), len(other)),))
        return None

    def table_unlike(self, one, other, path):
        """What parts the two tables of the path first."""
        for tag in sorted({entry[0] for entry in one + other}):
            found = self.entry_unlike(entry_of(one, tag), entry_of(other, tag), path)
            if found is not None:
                return found
        return None

    def entry_unlike(self, one, other, path):
        """What parts two entries of one tag first; None stands for the one that isn't there."""
        if one is None:
            return ("entry", path, other[0])
        tag, kind, worths = one
        if other is None or kind != other[1] or not self.is_level(kind, worths, other[2]):
            return ("entry", path, tag)
        if has_chains(kind, self.known):
            for k, (chain, mate) in enumerate(zip(worths, other[2])):
                found = self.chain_unlike(chain, mate, path + (tag, k))
                if found is not None:
                    return found
        return None

    def is_level(self, kind, worths, others):
        """Whether worths of one kind are alike; of chains whether there are as many."""
        if has_chains(kind, self.known):
            return len(worths) == len(others)
        return worths == others and (self.same_order or kind in self.known)
