"""What's told, writing by writing, and what the first writings say."""

from goodblocks.blocks import in_either, less
from goodblocks.rules import blocks_let

DEFECT = 0
OWNER = 1
SET = 2
LIFT = 3
METER = 4
LIVE = 5
SCALE = 6
RULE = 7

MOST_WRITINGS = 100


class Writing:
    """One writing: what kind it is, what it's about, the value told, and the set (in its form) it's told for.

    defect: about its name, the value is the owner's role; owner: about a defect's number, the value is the role;
    set, lift: about a defect's number; meter, live: about 0; scale: about the chain; rule: the value is its words.
    The value of meter, live and scale is (version, above, below): of two the greater counts.
    """

    def __init__(self, kind, about, value, pairs):
        self.kind = kind
        self.about = about
        self.value = value
        self.pairs = pairs


class Ledger:
    """The writings so far. They are only added to, so what the first n say stays as it is."""

    def __init__(self):
        self.writings = []

    def is_full(self):
        return len(self.writings) >= MOST_WRITINGS

    def write(self, kind, about, value, pairs):
        """Adds a writing; gives back its place."""
        self.writings.append(Writing(kind, about, value, pairs))
        return len(self.writings)

    def first(self, n):
        return self.writings[:n]

    def has_as_of(self, n):
        return n <= len(self.writings)

    def names(self):
        return [writing.about for writing in self.writings if writing.kind == DEFECT]

    def has_defect(self, d):
        return 0 <= d < len(self.names())

    def rules(self):
        return [writing.value for writing in self.writings if writing.kind == RULE]

    def has_rule(self, i):
        return 0 <= i < len(self.rules())

    def owner_now(self, d):
        owner = [writing.value for writing in self.writings if writing.kind == DEFECT][d]
        for writing in self.writings:
            if writing.kind == OWNER and writing.about == d:
                owner = writing.value
        return owner

    def good_blocks(self, i, n):
        """The blocks that rule i lets as of n; a defect not told by then has none."""
        sets = {}
        for d, name in enumerate(self.names()):
            sets[name] = blocks_with(self.first(n), d)
        return blocks_let(self.rules()[i], sets)


def blocks_with(writings, d):
    """The blocks that defect d has by these writings: on each block the last word counts."""
    form = []
    for writing in writings:
        if writing.kind == SET and writing.about == d:
            form = in_either(form, writing.pairs)
        elif writing.kind == LIFT and writing.about == d:
            form = less(form, writing.pairs)
    return form
