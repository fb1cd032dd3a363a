"""The refusals, and whether numbers and rows are as told."""

from goodblocks.blocks import BLOCKS
from goodblocks.ledger import MOST_WRITINGS

NOT_AS_TOLD = -1
NO_SUCH = -2
NAME_IS_TOLD = -3
NOT_ALLOWED = -6
NOT_YET = -7
NO_ROOM = -8

CHIEF = 0
GREATEST_ROLE = 9
GREATEST_CHAIN = 3
GREATEST_VERSION = 9999
GREATEST_METER = 9999
GREATEST_BELOW = 1000
MOST_PAIRS = 20
LONGEST_TEXT = 200
GREATEST_BYTE = 255


def is_role(role):
    return CHIEF <= role <= GREATEST_ROLE


def is_chain(k):
    return 0 <= k <= GREATEST_CHAIN


def is_version(version):
    return 1 <= version <= GREATEST_VERSION


def is_meter(v):
    return 0 <= v <= GREATEST_METER


def is_live_fraction(a, b):
    return 1 <= b <= GREATEST_BELOW and 0 <= a <= b


def is_scale(p):
    return 1 <= p <= GREATEST_BELOW


def is_as_of(n):
    return 0 <= n <= MOST_WRITINGS


def is_text(row):
    return len(row) <= LONGEST_TEXT and all([0 <= byte <= GREATEST_BYTE for byte in row])


def pairs_of(row):
    return [(row[at], row[at + 1]) for at in range(0, len(row), 2)]


def is_set(row):
    if len(row) % 2 != 0 or len(row) > 2 * MOST_PAIRS:
        return False
    return all([0 <= start < end <= BLOCKS for start, end in pairs_of(row)])
