"""Two rules held against one another by cases: a few blocks in a row, each with some of the defects named."""

from goodblocks.blocks import form_of, in_both
from goodblocks.rules import blocks_let, defects_named, how_far

WIDEST = 10


class Rivals:
    """Two rules by their words, all defects' names, how far the further one looks, the defects that one names."""

    def __init__(self, one, other, names):
        self.one = one
        self.other = other
        self.known = names
        self.reach = max(how_far(one), how_far(other))
        self.named = defects_named(one + other, names)

    def are_too_wide(self):
        return max(1, len(self.named)) * (2 * self.reach + 1) > WIDEST

    def are_parted(self, row, middle):
        """Whether the middle one of these blocks is good by one rule alone, were these all the blocks."""
        sets = {}
        for d in self.named:
            sets[self.known[d]] = form_of([(at, at + 1) for at, block in enumerate(row) if d in block])
        whole = [(0, len(row))]
        middle_alone = [(middle, middle + 1)]
        by_one = in_both(blocks_let(self.one, sets, whole), middle_alone)
        by_other = in_both(blocks_let(self.other, sets, whole), middle_alone)
        return by_one != by_other


def rows_by_steps(steps):
    """Every row made of one part (a list) of each step; in order, if each step's parts are: the first step leads."""
    rows = [[]]
    for parts in steps:
        longer = []
        for row in rows:
            longer.extend([row + part for part in parts])
        rows = longer
    return rows


def rows_of_blocks(named, count):
    """Every row of so many blocks in the order of cases; a block is the list of its defects."""
    blocks = rows_by_steps([([], [d]) for d in named])
    parts = [[block] for block in blocks]
    return rows_by_steps([parts for place in range(count)])


def places_beyond(reach):
    """How many places are beyond, as (on the left, on the right), in the order of cases."""
    left = [(count, 0) for count in range(1, reach + 1)]
    right = [(0, count) for count in range(1, reach + 1)]
    return [(0, 0)] + left + right


def parted_answer(left, right, row):
    answer = [0, left, right, len(row)]
    for block in row:
        answer.append(len(block))
        answer.extend(block)
    return answer


def alike_answer(rivals):
    """1 if the rules are alike, else 0 and the first case that parts them; they aren't too wide."""
    for left, right in places_beyond(rivals.reach):
        for row in rows_of_blocks(rivals.named, 2 * rivals.reach + 1 - left - right):
            if rivals.are_parted(row, rivals.reach - left):
                return parted_answer(left, right, row)
    return [1]
