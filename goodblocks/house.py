"""The calls on a house, read from one list and answered one behind another."""

from goodblocks.asking import FIRST_ASKING, asked
from goodblocks.ledger import Ledger
from goodblocks.telling import told

# By the number of the call: how many whole numbers it has, and whether a row comes behind them.
SHAPES = (
    (1, True),
    (3, False),
    (1, True),
    (2, True),
    (2, True),
    (3, True),
    (3, True),
    (0, True),
    (1, False),
    (2, False),
    (3, False),
    (3, True),
    (3, False),
    (5, True),
    (2, False),
    (1, False),
    (2, False),
    (1, False),
    (3, False),
    (3, False),
    (0, False),
)


def answer_of(ledger, number, numbers, row):
    if number < FIRST_ASKING:
        return told(ledger, number, numbers, row)
    return asked(ledger, number, numbers, row)


def answers(calls):
    """For each call on a new house, in order: how many numbers are answered, then these."""
    ledger = Ledger()
    given = []
    at = 0
    while at < len(calls):
        number = calls[at]
        count = SHAPES[number][0]
        has_row = SHAPES[number][1]
        numbers = calls[at + 1:at + 1 + count]
        at += 1 + count
        row = []
        if has_row:
            row = calls[at + 1:at + 1 + calls[at]]
            at += 1 + calls[at]
        answer = answer_of(ledger, number, numbers, row)
        given.append(len(answer))
        given.extend(answer)
    return given
