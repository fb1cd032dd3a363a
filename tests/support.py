"""Calls as the tests write them, and answers taken apart."""

import unittest

from goodblocks.house import answers

FAR = 10 ** 18


def with_row(number, numbers, row):
    return [number, *numbers, len(row), *row]


def flat(pairs):
    return [number for pair in pairs for number in pair]


def defect(name, role=0):
    row = list(name.encode()) if isinstance(name, str) else name
    return with_row(0, [role], row)


def owner(d, by, role):
    return [1, d, by, role]


def set_on(d, *pairs):
    return with_row(2, [d], flat(pairs))


def lift(d, by, *pairs):
    return with_row(3, [d, by], flat(pairs))


def meter(version, v, *pairs):
    return with_row(4, [version, v], flat(pairs))


def live(version, a, b, *pairs):
    return with_row(5, [version, a, b], flat(pairs))


def scale(k, version, p, *pairs):
    return with_row(6, [k, version, p], flat(pairs))


def rule(text):
    row = list(text.encode()) if isinstance(text, str) else text
    return with_row(7, [], row)


def shown(i):
    return [8, i]


def good(i, n):
    return [9, i, n]


def lumi(i, k, n):
    return [10, i, k, n]


def part(i, k, n, *pairs):
    return with_row(11, [i, k, n], flat(pairs))


def list_of(i, k, n):
    return [12, i, k, n]


def judge(i, k, n, a, b, *stretches):
    return with_row(13, [i, k, n, a, b], flat(stretches))


def defect_set(d, n):
    return [14, d, n]


def owners(n):
    return [15, n]


def alike(i, j):
    return [16, i, j]


def looks(i):
    return [17, i]


def changed(i, m, n):
    return [18, i, m, n]


def worth(k, n, b):
    return [19, k, n, b]


def counts():
    return [20]


def cut(given):
    """The answers, call by call."""
    found = []
    at = 0
    while at < len(given):
        found.append(given[at + 1:at + 1 + given[at]])
        at += 1 + given[at]
    return found


def ask(*calls):
    """The answers to these calls on one new house, a list each."""
    return cut(answers([number for call in calls for number in call]))


def last(*calls):
    return ask(*calls)[-1]


def shown_text(answer):
    """The text that `shown` answered."""
    assert answer[0] == len(answer) - 1, answer
    return bytes(answer[1:]).decode()


def pairs_in(answer):
    """The pairs that `good`, `defectSet` or `changed` answered, after a look at its counts."""
    pairs = list(zip(answer[2::2], answer[3::2]))
    assert answer[0] == sum(end - start for start, end in pairs), answer
    assert len(answer) == 2 + 2 * answer[1], answer
    return pairs


def stretches_in(answer):
    """The stretches that `list` answered, after a look at their count."""
    assert len(answer) == 1 + 4 * answer[0], answer
    return [tuple(answer[at:at + 4]) for at in range(1, len(answer), 4)]


def case_in(answer):
    """The case that `alike` answered: on the left, on the right, and each block's defects."""
    assert answer[0] == 0, answer
    blocks = []
    at = 4
    while at < len(answer):
        blocks.append(answer[at + 1:at + 1 + answer[at]])
        at += 1 + answer[at]
    assert len(blocks) == answer[3], answer
    return answer[1], answer[2], blocks


class HouseTest(unittest.TestCase):
    def refused(self, code, *calls):
        """The last of the calls is refused with this code alone."""
        self.assertEqual([code], last(*calls))

    def good_pairs(self, pairs, *calls):
        """The last of the calls asks for blocks: just these."""
        self.assertEqual(pairs, pairs_in(last(*calls)))
