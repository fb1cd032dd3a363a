"""Lines of calls drawn by seeded chance, held against the model that goes block by block."""

import random
import unittest

from tests import support
from tests.model import model_answers
from tests.support import ask

NAMES = ("a", "bb", "noise", "hv", "eighteen", "z", "trip", "veto", "ninth")
ODD_NUMBERS = (-support.FAR, support.FAR, -1, 10, 101, 10001)
ODD_WORDS = ("", " ", "0", "1", "20", "21", "01", "12345678", "All", "unknown", "ninelette", "a1", "-1")
ODD_BYTES = (0, 9, 10, 31, 33, 255)


class Line:
    """Draws calls; keeps no account of what the house says of them."""

    def __init__(self, seed, odd):
        self.chance = random.Random(seed)
        self.odd = odd
        self.ends = sorted(self.chance.sample(range(1, 10000), 6)) + [0, 1, 19, 20, 21, 9980, 9999, 10000]

    def strays(self):
        return self.chance.random() < self.odd

    def number(self, low, high):
        return self.chance.choice(ODD_NUMBERS) if self.strays() else self.chance.randint(low, high)

    def near(self, end):
        return min(10000, max(0, end + self.chance.randint(-25, 25)))

    def pairs(self):
        count = self.chance.choice((0, 1, 1, 2, 3, 20))
        found = []
        for each in range(count):
            end = self.chance.choice(self.ends)
            # Mostly short pairs beside a few places, so that sets meet, touch and overlap there.
            other = self.near(end) if self.chance.random() < 0.8 else self.chance.choice(self.ends)
            ends = sorted((self.near(end), other))
            found.append(tuple(ends) if ends[0] < ends[1] else (4000, 4020))
        if self.strays():
            found.append((self.number(0, 9), self.number(0, 9)))
        return found

    def text(self, depth):
        if self.strays():
            return self.chance.choice(ODD_WORDS)
        blank = self.chance.choice((" ", " ", "  "))
        word = self.chance.choice(("all", "name", "name", "not", "both", "either", "long"))
        if depth == 0 or word == "name":
            return self.chance.choice(NAMES[:4])
        if word == "all":
            return word
        if word == "not":
            return word + blank + self.text(depth - 1)
        if word == "long":
            n = self.chance.choice((0, 21)) if self.strays() else self.chance.choice((1, 2, 5, 10, 19, 20))
            return word + blank + str(n) + blank + self.text(depth - 1)
        return word + blank + self.text(depth - 1) + blank + self.text(depth - 1)

    def text_row(self):
        row = list(self.text(self.chance.choice((1, 2, 3, 9))).encode())[:230]
        if row and self.strays():
            row[self.chance.randrange(len(row))] = self.chance.choice(ODD_BYTES)
        return row

    def telling(self):
        draw = self.number
        kind = self.chance.choice((0, 1, 2, 2, 2, 3, 3, 4, 5, 6, 7))
        if kind == 0:
            return support.defect(self.chance.choice(NAMES), draw(0, 9))
        if kind == 1:
            return support.owner(draw(0, 4), draw(0, 3), draw(0, 3))
        if kind == 2:
            return support.set_on(draw(0, 4), *self.pairs())
        if kind == 3:
            return support.lift(draw(0, 4), draw(0, 3), *self.pairs())
        if kind == 4:
            return support.meter(draw(1, 4), draw(0, 9), *self.pairs())
        if kind == 5:
            b = self.chance.choice((1, 2, 30, 49, 1000))
            return support.live(draw(1, 4), draw(0, b), b, *self.pairs())
        if kind == 6:
            return support.scale(draw(0, 1), draw(1, 4), draw(1, 1000), *self.pairs())
        return support.rule(self.text_row())

    def asking(self, most):
        draw = self.number
        kind = self.chance.choice((8, 9, 9, 10, 10))
        n = draw(most - 5, most) if self.chance.random() < 0.7 else draw(0, most)
        if kind == 8:
            return support.shown(draw(0, 3))
        if kind == 9:
            return support.good(draw(1, 3), n)
        return support.lumi(draw(0, 3), draw(0, 1), n)

    def beginning(self):
        calls = [support.defect(name, role) for role, name in enumerate(NAMES[:4])]
        calls += [support.rule("all"), support.rule("long 20 not either a bb")]
        calls.append(support.rule("either both not a long 2 bb both a not long 19 hv"))
        calls += [support.meter(1, 7, (0, 10000)), support.live(1, 2, 3, (0, 9999)), support.scale(0, 1, 6, (1, 10000))]
        return calls


class AgainstModelTest(unittest.TestCase):
    def held(self, calls):
        for call, given, wanted in zip(calls, ask(*calls), model_answers(calls), strict=True):
            self.assertEqual(wanted, given, call)

    def test_tellings_and_askings_mixed(self):
        for seed in range(12):
            line = Line(seed, 0.02)
            calls = line.beginning()
            for each in range(10):
                calls += [line.telling() for step in range(5)]
                calls += [line.asking(12 + 3 * each) for step in range(2)]
            with self.subTest(seed=seed):
                self.held(calls)

    def test_many_tellings_then_askings(self):
        for seed in range(100, 108):
            line = Line(seed, 0.0)
            calls = line.beginning() + [line.telling() for step in range(100)]
            calls += [line.asking(60) for step in range(6)]
            with self.subTest(seed=seed):
                self.held(calls)

    def test_tellings_with_many_strays(self):
        for seed in range(200, 500):
            line = Line(seed, 0.15)
            calls = line.beginning()[:4] + [line.telling() for step in range(110)]
            calls += [support.shown(i) for i in range(6)]
            with self.subTest(seed=seed):
                self.held(calls)


if __name__ == "__main__":
    unittest.main()
