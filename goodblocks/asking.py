"""The calls that ask something: they change nothing."""

from goodblocks.blocks import size_of
from goodblocks.checks import NO_SUCH, NOT_AS_TOLD, NOT_YET, is_as_of, is_chain
from goodblocks.rules import one_text
from goodblocks.worth import luminosity, pieces_within, worth_pieces


def set_answer(pairs):
    """A set as it is answered: the size, how many pairs, then they."""
    answer = [size_of(pairs), len(pairs)]
    for start, end in pairs:
        answer.append(start)
        answer.append(end)
    return answer


def luminosity_answer(pairs, pieces):
    """The luminosity of a set: above, below, the set's size, how many of its blocks lack."""
    within = pieces_within(pieces, pairs)
    fraction = luminosity(within)
    size = size_of(pairs)
    worthy = size_of([(start, end) for start, end, above, below in within])
    return [fraction[0], fraction[1], size, size - worthy]


def ask_shown(ledger, numbers, row):
    i = numbers[0]
    if not ledger.has_rule(i):
        return [NO_SUCH]
    text = one_text(ledger.rules()[i])
    return [len(text)] + text


def ask_good(ledger, numbers, row):
    i = numbers[0]
    n = numbers[1]
    if not is_as_of(n):
        return [NOT_AS_TOLD]
    if not ledger.has_rule(i):
        return [NO_SUCH]
    if not ledger.has_as_of(n):
        return [NOT_YET]
    return set_answer(ledger.good_blocks(i, n))


def ask_lumi(ledger, numbers, row):
    i = numbers[0]
    k = numbers[1]
    n = numbers[2]
    if not is_chain(k) or not is_as_of(n):
        return [NOT_AS_TOLD]
    if not ledger.has_rule(i):
        return [NO_SUCH]
    if not ledger.has_as_of(n):
        return [NOT_YET]
    return luminosity_answer(ledger.good_blocks(i, n), worth_pieces(ledger.first(n), k))


# By the number of the call, from FIRST_ASKING on.
ASKINGS = (ask_shown, ask_good, ask_lumi)
FIRST_ASKING = 8


def asked(ledger, number, numbers, row):
    return ASKINGS[number - FIRST_ASKING](ledger, numbers, row)
