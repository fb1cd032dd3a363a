"""The refusals, and whether numbers and rows are as told."""

from goodblocks.blocks import BLOCKS
from goodblocks.ledger import MOST_WRITINGS

NO_REFUSAL = 0
NOT_AS_TOLD = -1
NO_SUCH = -2
NAME_IS_TOLD = -3
NOT_ALLOWED = -6
NOT_YET = -7
NO_ROOM = -8
TOO_WIDE = -9

CHIEF = 0
GREATEST_ROLE = 9
GREATEST_CHAIN = 3
GREATEST_VERSION = 9999
GREATEST_METER = 9999
GREATEST_BELOW = 1000
MOST_PAIRS = 20
LONGEST_TEXT = 200
GREATEST_BYTE = 255


def is_role(role):
    return CHIEF <= role <= GREATEST_ROLE


def is_chain(k):
    return 0 <= k <= GREATEST_CHAIN


def is_version(version):
    return 1 <= version <= GREATEST_VERSION


def is_meter(v):
    return 0 <= v <= GREATEST_METER


def is_live_fraction(a, b):
    return 1 <= b <= GREATEST_BELOW and 0 <= a <= b


def is_scale(p):
    return 1 <= p <= GREATEST_BELOW


def is_as_of(n):
    return 0 <= n <= MOST_WRITINGS


def is_block(b):
    return 0 <= b < BLOCKS


def is_text(row):
    return len(row) <= LONGEST_TEXT and all([0 <= byte <= GREATEST_BYTE for byte in row])


def pairs_of(row):
    return [(row[at], row[at + 1]) for at in range(0, len(row), 2)]


def is_set(row):
    if len(row) % 2 != 0 or len(row) > 2 * MOST_PAIRS:
        return False
    return all([0 <= start < end <= BLOCKS for start, end in pairs_of(row)])


def stretches_of(row):
    """The stretches of a row, as (from, up to, above, below) each."""
    return [(row[at], row[at + 1], row[at + 2], row[at + 3]) for at in range(0, len(row), 4)]


def is_stretch(start, end, above, below):
    """Whether the numbers are in their ranges: whether it has blocks is the judge's to say."""
    return 0 <= start <= BLOCKS and 0 <= end <= BLOCKS and above >= 0 and below >= 1


def are_stretches(row):
    if len(row) % 4 != 0:
        return False
    return all([is_stretch(start, end, above, below) for start, end, above, below in stretches_of(row)])


def refusal_of(as_told, is_there, is_reached):
    """The first refusal of an asking: are its numbers and rows as told, is what it names there, are n and m reached."""
    if not as_told:
        return NOT_AS_TOLD
    if not is_there:
        return NO_SUCH
    if not is_reached:
        return NOT_YET
    return NO_REFUSAL
