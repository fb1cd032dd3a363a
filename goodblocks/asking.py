"""The calls that ask something: they change nothing."""

from goodblocks.blocks import form_of, in_both, in_one_alone, size_of
from goodblocks.cases import Rivals, alike_answer
from goodblocks.checks import (
    NO_REFUSAL,
    NO_SUCH,
    TOO_WIDE,
    are_stretches,
    is_as_of,
    is_block,
    is_chain,
    is_set,
    pairs_of,
    refusal_of,
    stretches_of,
)
from goodblocks.judge import verdict
from goodblocks.ledger import DEFECT, LIFT, LIVE, METER, RULE, SCALE, SET
from goodblocks.ratios import lowest_terms
from goodblocks.rules import defects_named, how_far, one_text
from goodblocks.worth import luminosity, pieces_within, spans, stretches, worth_pieces


def set_answer(pairs):
    """A set as it is answered: the size, how many pairs, then they."""
    answer = [size_of(pairs), len(pairs)]
    for start, end in pairs:
        answer.append(start)
        answer.append(end)
    return answer


def luminosity_answer(pairs, pieces):
    """The luminosity of a set: above, below, the set's size, how many of its blocks lack."""
    within = pieces_within(pieces, pairs)
    fraction = luminosity(within)
    size = size_of(pairs)
    return [fraction[0], fraction[1], size, size - size_of(spans(within))]


def good_pieces(ledger, i, k, n):
    """What the blocks that rule i lets are worth for chain k as of n, without those that lack."""
    return pieces_within(worth_pieces(ledger.first(n), k), ledger.good_blocks(i, n))


def ask_shown(ledger, numbers, row):
    i = numbers[0]
    if not ledger.has_rule(i):
        return [NO_SUCH]
    text = one_text(ledger.rules()[i])
    return [len(text)] + text


def ask_good(ledger, numbers, row):
    i = numbers[0]
    n = numbers[1]
    refusal = refusal_of(is_as_of(n), ledger.has_rule(i), ledger.has_as_of(n))
    if refusal != NO_REFUSAL:
        return [refusal]
    return set_answer(ledger.good_blocks(i, n))


def ask_lumi(ledger, numbers, row):
    i = numbers[0]
    k = numbers[1]
    n = numbers[2]
    refusal = refusal_of(is_chain(k) and is_as_of(n), ledger.has_rule(i), ledger.has_as_of(n))
    if refusal != NO_REFUSAL:
        return [refusal]
    return luminosity_answer(ledger.good_blocks(i, n), worth_pieces(ledger.first(n), k))


def ask_part(ledger, numbers, row):
    i = numbers[0]
    k = numbers[1]
    n = numbers[2]
    as_told = is_chain(k) and is_as_of(n) and is_set(row)
    refusal = refusal_of(as_told, ledger.has_rule(i), ledger.has_as_of(n))
    if refusal != NO_REFUSAL:
        return [refusal]
    pairs = in_both(ledger.good_blocks(i, n), form_of(pairs_of(row)))
    return luminosity_answer(pairs, worth_pieces(ledger.first(n), k))


def ask_list(ledger, numbers, row):
    i = numbers[0]
    k = numbers[1]
    n = numbers[2]
    refusal = refusal_of(is_chain(k) and is_as_of(n), ledger.has_rule(i), ledger.has_as_of(n))
    if refusal != NO_REFUSAL:
        return [refusal]
    found = stretches(good_pieces(ledger, i, k, n))
    answer = [len(found)]
    for stretch in found:
        answer.extend(stretch)
    return answer


def ask_judge(ledger, numbers, row):
    i = numbers[0]
    k = numbers[1]
    n = numbers[2]
    above = numbers[3]
    below = numbers[4]
    as_told = is_chain(k) and is_as_of(n) and below >= 1 and are_stretches(row)
    refusal = refusal_of(as_told, ledger.has_rule(i), ledger.has_as_of(n))
    if refusal != NO_REFUSAL:
        return [refusal]
    return verdict(stretches_of(row), good_pieces(ledger, i, k, n), (above, below))


def ask_defect_set(ledger, numbers, row):
    d = numbers[0]
    n = numbers[1]
    refusal = refusal_of(is_as_of(n), ledger.has_defect(d), ledger.has_as_of(n))
    if refusal != NO_REFUSAL:
        return [refusal]
    return set_answer(ledger.defect_blocks(d, n))


def ask_owners(ledger, numbers, row):
    n = numbers[0]
    refusal = refusal_of(is_as_of(n), True, ledger.has_as_of(n))
    if refusal != NO_REFUSAL:
        return [refusal]
    owners = ledger.owners(n)
    return [len(owners)] + owners


def ask_alike(ledger, numbers, row):
    i = numbers[0]
    j = numbers[1]
    if not ledger.has_rule(i) or not ledger.has_rule(j):
        return [NO_SUCH]
    rules = ledger.rules()
    rivals = Rivals(rules[i], rules[j], ledger.names())
    if rivals.are_too_wide():
        return [TOO_WIDE]
    return alike_answer(rivals)


def ask_looks(ledger, numbers, row):
    i = numbers[0]
    if not ledger.has_rule(i):
        return [NO_SUCH]
    words = ledger.rules()[i]
    named = defects_named(words, ledger.names())
    return [how_far(words), len(named)] + named


def ask_changed(ledger, numbers, row):
    i = numbers[0]
    m = numbers[1]
    n = numbers[2]
    reached = ledger.has_as_of(m) and ledger.has_as_of(n)
    refusal = refusal_of(is_as_of(m) and is_as_of(n), ledger.has_rule(i), reached)
    if refusal != NO_REFUSAL:
        return [refusal]
    return set_answer(in_one_alone(ledger.good_blocks(i, m), ledger.good_blocks(i, n)))


def ask_worth(ledger, numbers, row):
    k = numbers[0]
    n = numbers[1]
    b = numbers[2]
    refusal = refusal_of(is_chain(k) and is_as_of(n) and is_block(b), True, ledger.has_as_of(n))
    if refusal != NO_REFUSAL:
        return [refusal]
    pieces = pieces_within(worth_pieces(ledger.first(n), k), [(b, b + 1)])
    if not pieces:
        return [0]
    fraction = lowest_terms(pieces[0][2], pieces[0][3])
    return [1, fraction[0], fraction[1]]


def ask_counts(ledger, numbers, row):
    kinds_together = ((DEFECT,), (SET, LIFT), (METER,), (LIVE,), (SCALE,), (RULE,))
    return [ledger.place_now()] + [ledger.how_many(kinds) for kinds in kinds_together]


# By the number of the call, from FIRST_ASKING on.
ASKINGS = (
    ask_shown,
    ask_good,
    ask_lumi,
    ask_part,
    ask_list,
    ask_judge,
    ask_defect_set,
    ask_owners,
    ask_alike,
    ask_looks,
    ask_changed,
    ask_worth,
    ask_counts,
)
FIRST_ASKING = 8


def asked(ledger, number, numbers, row):
    return ASKINGS[number - FIRST_ASKING](ledger, numbers, row)
