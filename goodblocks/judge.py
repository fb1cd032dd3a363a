"""The judge of a list told: stretches (from, up to, above, below), held against what the blocks are worth."""

from goodblocks.blocks import in_one_alone, overlaps
from goodblocks.worth import luminosity, spans

RIGHT = 0
WRONG_BLOCK = 1
WRONG_SUM = 2
WRONG_ORDER = 3
WRONG_WORTH = 4


def stand_in_order(told):
    """Whether no stretch is empty or begins ahead of where the one before ends."""
    reached = 0
    for start, end, above, below in told:
        if start < reached or end <= start:
            return False
        reached = end
    return True


def is_same(left, right):
    """Whether two fractions are the same, in lowest terms or not."""
    return left[0] * right[1] == right[0] * left[1]


def verdict(told, pieces, whole):
    """What the judge says of the stretches told and their sum, for the blocks of these pieces."""
    if not stand_in_order(told):
        return [WRONG_ORDER, 0]
    wrong = in_one_alone(spans(told), spans(pieces))
    if wrong:
        return [WRONG_BLOCK, wrong[0][0]]
    for start, end, i, j in overlaps(told, pieces):
        if not is_same(told[i][2:], pieces[j][2:]):
            return [WRONG_WORTH, told[i][0]]
    if not is_same(luminosity(told), whole):
        return [WRONG_SUM, 0]
    return [RIGHT, 0]
