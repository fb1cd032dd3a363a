"""Calls as the tests write them, and answers taken apart."""

import unittest

from goodblocks.house import answers

FAR = 10 ** 18


def with_row(number, numbers, row):
    return [number, *numbers, len(row), *row]


def flat(pairs):
    return [number for pair in pairs for number in pair]


def defect(name, role=0):
    row = list(name.encode()) if isinstance(name, str) else name
    return with_row(0, [role], row)


def owner(d, by, role):
    return [1, d, by, role]


def set_on(d, *pairs):
    return with_row(2, [d], flat(pairs))


def lift(d, by, *pairs):
    return with_row(3, [d, by], flat(pairs))


def meter(version, v, *pairs):
    return with_row(4, [version, v], flat(pairs))


def live(version, a, b, *pairs):
    return with_row(5, [version, a, b], flat(pairs))


def scale(k, version, p, *pairs):
    return with_row(6, [k, version, p], flat(pairs))


def rule(text):
    row = list(text.encode()) if isinstance(text, str) else text
    return with_row(7, [], row)


def shown(i):
    return [8, i]


def good(i, n):
    return [9, i, n]


def lumi(i, k, n):
    return [10, i, k, n]


def cut(given):
    """The answers, call by call."""
    found = []
    at = 0
    while at < len(given):
        found.append(given[at + 1:at + 1 + given[at]])
        at += 1 + given[at]
    return found


def ask(*calls):
    """The answers to these calls on one new house, a list each."""
    return cut(answers([number for call in calls for number in call]))


def last(*calls):
    return ask(*calls)[-1]


def shown_text(answer):
    """The text that `shown` answered."""
    assert answer[0] == len(answer) - 1, answer
    return bytes(answer[1:]).decode()


def pairs_in(answer):
    """The pairs that `good` answered, after a look at its counts."""
    pairs = list(zip(answer[2::2], answer[3::2]))
    assert answer[0] == sum(end - start for start, end in pairs), answer
    assert len(answer) == 2 + 2 * answer[1], answer
    return pairs


class HouseTest(unittest.TestCase):
    def refused(self, code, *calls):
        """The last of the calls is refused with this code alone."""
        self.assertEqual([code], last(*calls))

    def good_pairs(self, pairs, *calls):
        """The last of the calls asks for good blocks: just these."""
        self.assertEqual(pairs, pairs_in(last(*calls)))
