"""What blocks are worth, by pieces (from, up to, above, below): in order, apart, the fraction is each block's."""

from goodblocks.blocks import all_blocks, form_of, in_both, less, overlaps
from goodblocks.ledger import LIVE, METER, SCALE
from goodblocks.ratios import lowest_terms, sum_of


def value_of(writing):
    return writing.value


def what_counts(writings, kind, about):
    """What counts for each block, of the writings of this kind that are about this."""
    told = [writing for writing in writings if writing.kind == kind and writing.about == about]
    left = all_blocks()
    pieces = []
    # The greatest value first (sorted keeps the first told ahead of alike ones): it takes what's still left.
    for writing in sorted(told, key=value_of, reverse=True):
        for start, end in in_both(left, writing.pairs):
            pieces.append((start, end, writing.value[1], writing.value[2]))
        left = less(left, writing.pairs)
    return sorted(pieces)


def product(left, right):
    """The pieces of the blocks that both have, with the fractions multiplied."""
    return [
        (start, end, left[i][2] * right[j][2], left[i][3] * right[j][3])
        for start, end, i, j in overlaps(left, right)
    ]


def worth_pieces(writings, chain):
    """What each block is worth for the chain by these writings, without blocks that lack."""
    meter = what_counts(writings, METER, 0)
    live = what_counts(writings, LIVE, 0)
    scale = what_counts(writings, SCALE, chain)
    return product(product(meter, live), scale)


def pieces_within(pieces, pairs):
    """The pieces' parts that lie in the set."""
    return product([(start, end, 1, 1) for start, end in pairs], pieces)


def spans(pieces):
    """The set of the pieces' blocks, in its form."""
    return form_of([(start, end) for start, end, above, below in pieces])


def luminosity(pieces):
    return sum_of([((end - start) * above, below) for start, end, above, below in pieces])


def stretches(pieces):
    """The pieces with each worth in lowest terms, and those that touch and are worth the same as one."""
    found = []
    for start, end, above, below in pieces:
        worth = lowest_terms(above, below)
        if found and found[-1][1] == start and found[-1][2:] == worth:
            found[-1] = (found[-1][0], end, worth[0], worth[1])
        else:
            found.append((start, end, worth[0], worth[1]))
    return found
