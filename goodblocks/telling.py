"""The calls that tell something: each is answered with its place, or refused and nothing is changed."""

from goodblocks.blocks import form_of
from goodblocks.checks import (
    CHIEF,
    NAME_IS_TOLD,
    NO_ROOM,
    NO_SUCH,
    NOT_ALLOWED,
    NOT_AS_TOLD,
    is_chain,
    is_live_fraction,
    is_meter,
    is_role,
    is_scale,
    is_set,
    is_text,
    is_version,
    pairs_of,
)
from goodblocks.ledger import DEFECT, LIFT, LIVE, METER, OWNER, RULE, SCALE, SET
from goodblocks.rules import NO_FAULT, fault_of, is_name, spelled, words_of

MOST_DEFECTS = 8
MOST_RULES = 10


def may_decide(ledger, d, by):
    return by == CHIEF or by == ledger.owner_now(d)


def placed(ledger, kind, about, value, pairs):
    """The last step of a telling that nothing else refuses."""
    if ledger.is_full():
        return [NO_ROOM]
    return [ledger.write(kind, about, value, pairs)]


def numbered(ledger, number, most, kind, about, value):
    """As placed, for what is numbered and has room for so many."""
    if number >= most or ledger.is_full():
        return [NO_ROOM]
    return [number, ledger.write(kind, about, value, [])]


def tell_defect(ledger, numbers, row):
    role = numbers[0]
    name = spelled(row)
    if not is_role(role) or not is_name(name):
        return [NOT_AS_TOLD]
    names = ledger.names()
    if name in names:
        return [NAME_IS_TOLD]
    return numbered(ledger, len(names), MOST_DEFECTS, DEFECT, name, role)


def tell_owner(ledger, numbers, row):
    d = numbers[0]
    by = numbers[1]
    role = numbers[2]
    if not is_role(by) or not is_role(role):
        return [NOT_AS_TOLD]
    if not ledger.has_defect(d):
        return [NO_SUCH]
    if not may_decide(ledger, d, by):
        return [NOT_ALLOWED]
    return placed(ledger, OWNER, d, role, [])


def tell_set(ledger, numbers, row):
    d = numbers[0]
    if not is_set(row):
        return [NOT_AS_TOLD]
    if not ledger.has_defect(d):
        return [NO_SUCH]
    return placed(ledger, SET, d, 0, form_of(pairs_of(row)))


def tell_lift(ledger, numbers, row):
    d = numbers[0]
    by = numbers[1]
    if not is_role(by) or not is_set(row):
        return [NOT_AS_TOLD]
    if not ledger.has_defect(d):
        return [NO_SUCH]
    if not may_decide(ledger, d, by):
        return [NOT_ALLOWED]
    return placed(ledger, LIFT, d, 0, form_of(pairs_of(row)))


def tell_meter(ledger, numbers, row):
    version = numbers[0]
    v = numbers[1]
    if not is_version(version) or not is_meter(v) or not is_set(row):
        return [NOT_AS_TOLD]
    return placed(ledger, METER, 0, (version, v, 1), form_of(pairs_of(row)))


def tell_live(ledger, numbers, row):
    version = numbers[0]
    a = numbers[1]
    b = numbers[2]
    if not is_version(version) or not is_live_fraction(a, b) or not is_set(row):
        return [NOT_AS_TOLD]
    return placed(ledger, LIVE, 0, (version, a, b), form_of(pairs_of(row)))


def tell_scale(ledger, numbers, row):
    k = numbers[0]
    version = numbers[1]
    p = numbers[2]
    if not is_chain(k) or not is_version(version) or not is_scale(p) or not is_set(row):
        return [NOT_AS_TOLD]
    return placed(ledger, SCALE, k, (version, 1, p), form_of(pairs_of(row)))


def tell_rule(ledger, numbers, row):
    if not is_text(row):
        return [NOT_AS_TOLD]
    fault = fault_of(row, ledger.names())
    if fault[0] != NO_FAULT:
        return [-1000 * fault[0] - fault[1]]
    number = len(ledger.rules())
    return numbered(ledger, number, MOST_RULES, RULE, number, words_of(row))


# By the number of the call.
TELLINGS = (tell_defect, tell_owner, tell_set, tell_lift, tell_meter, tell_live, tell_scale, tell_rule)


def told(ledger, number, numbers, row):
    return TELLINGS[number](ledger, numbers, row)
