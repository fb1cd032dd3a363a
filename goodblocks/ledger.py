"""What's told, writing by writing, and what the first writings say."""

from goodblocks.blocks import all_blocks, in_either, less
from goodblocks.rules import blocks_let

DEFECT = 0
OWNER = 1
SET = 2
LIFT = 3
METER = 4
LIVE = 5
SCALE = 6
RULE = 7

MOST_WRITINGS = 100

# Stands for the owner of a defect that wasn't told by then.
NO_OWNER = -1


class Writing:
    """One writing: what kind it is, what it's about, the value told, and the set (in its form) it's told for.

    defect: about its name, the value is the owner's role; owner: about a defect's number, the value is the role;
    set, lift: about a defect's number; meter, live: about 0; scale: about the chain; rule: the value is its words.
    The value of meter, live and scale is (version, above, below): of two the greater counts.
    """

    def __init__(self, kind, about, value, pairs):
        self.kind = kind
        self.about = about
        self.value = value
        self.pairs = pairs


class Ledger:
    """The writings so far. They are only added to, so what the first n say stays as it is."""

    def __init__(self):
        self.writings = []

    def place_now(self):
        return len(self.writings)

    def is_full(self):
        return self.place_now() >= MOST_WRITINGS

    def write(self, kind, about, value, pairs):
        """Adds a writing; gives back its place."""
        self.writings.append(Writing(kind, about, value, pairs))
        return self.place_now()

    def first(self, n):
        return self.writings[:n]

    def has_as_of(self, n):
        return n <= self.place_now()

    def names(self):
        return [writing.about for writing in self.writings if writing.kind == DEFECT]

    def has_defect(self, d):
        return 0 <= d < len(self.names())

    def rules(self):
        return [writing.value for writing in self.writings if writing.kind == RULE]

    def has_rule(self, i):
        return 0 <= i < len(self.rules())

    def how_many(self, kinds):
        return len([writing for writing in self.writings if writing.kind in kinds])

    def owners(self, n):
        """The owner of each defect as of n, also of those told later."""
        roles = [NO_OWNER for name in self.names()]
        told = 0
        for writing in self.first(n):
            if writing.kind == DEFECT:
                roles[told] = writing.value
                told += 1
            elif writing.kind == OWNER:
                roles[writing.about] = writing.value
        return roles

    def owner_now(self, d):
        return self.owners(self.place_now())[d]

    def defect_blocks(self, d, n):
        """The blocks that defect d has as of n; one not told by then has none."""
        return blocks_with(self.first(n), d)

    def good_blocks(self, i, n):
        """The blocks that rule i lets as of n, also if it was told later."""
        sets = {}
        for d, name in enumerate(self.names()):
            sets[name] = self.defect_blocks(d, n)
        return blocks_let(self.rules()[i], sets, all_blocks())


def blocks_with(writings, d):
    """The blocks that defect d has by these writings: on each block the last word counts."""
    form = []
    for writing in writings:
        if writing.kind == SET and writing.about == d:
            form = in_either(form, writing.pairs)
        elif writing.kind == LIFT and writing.about == d:
            form = less(form, writing.pairs)
    return form
