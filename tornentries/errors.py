"""The refusals of all stages."""


class TornError(ValueError):
    """What all refusals but NoReader stand under."""


class Spoilt(TornError):
    """A file can't be read: why, at which table, at which of its entries."""

    def __init__(self, why, path, number):
        self.why = why
        self.path = path
        self.number = number


class NoTable(TornError):
    """No table is at this path; None stands for what is no path."""

    def __init__(self, path):
        self.path = path


class NoTag(TornError):
    """No entry has this tag; None stands for what is no whole number."""

    def __init__(self, tag):
        self.tag = tag


class NoShare(TornError):
    """What an entry has can't be shared."""


class Taken(TornError):
    """An entry has this tag already."""

    def __init__(self, tag):
        self.tag = tag


class NoPiece(TornError):
    """The entry has no such piece; None stands for what is no whole number."""

    def __init__(self, k):
        self.k = k


class TooMany(TornError):
    """A table would have too many entries, or a chain too many tables."""


class TooDeep(TornError):
    """Chains would stand too deep in one another."""


class TooGreat(TornError):
    """A file would need too many cells."""


class NoDeed(TornError):
    """What was handed in is no deed."""


class Raw(TornError):
    """The entry of this tag, in the table of this path, is raw."""

    def __init__(self, path, tag):
        self.path = path
        self.tag = tag


class NoWay(TornError):
    """What was handed in is no way to an entry."""


class NoGrid(TornError):
    """What was handed in makes no grid."""


class Busy(TornError):
    """A reader is still there."""


class NoText(TornError):
    """A text isn't written as it must be, from this line on."""

    def __init__(self, line):
        self.line = line


class NoLine(TornError):
    """What a desk was told is none of its lines."""


class NoReader(LookupError):
    """No reader has this number; None stands for what is no whole number."""

    def __init__(self, number):
        self.number = number
