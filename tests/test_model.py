"""Lines of calls drawn by seeded chance, held against the model that goes block by block."""

import random
import unittest
from fractions import Fraction

from tests import support
from tests.model import Model, model_answers
from tests.support import ask

NAMES = ("a", "bb", "noise", "hv", "eighteen", "z", "trip", "veto", "ninth")
ODD_NUMBERS = (-support.FAR, support.FAR, -1, 10, 101, 10001)
ODD_WORDS = ("", " ", "0", "1", "20", "21", "01", "12345678", "All", "unknown", "ninelette", "a1", "-1")
ODD_BYTES = (0, 9, 10, 31, 33, 255)


class Line:
    """Draws calls; keeps no account of what the house says of them."""

    def __init__(self, seed, odd):
        self.chance = random.Random(seed)
        self.odd = odd
        self.ends = sorted(self.chance.sample(range(1, 10000), 6)) + [0, 1, 19, 20, 21, 9980, 9999, 10000]

    def strays(self):
        return self.chance.random() < self.odd

    def number(self, low, high):
        return self.chance.choice(ODD_NUMBERS) if self.strays() else self.chance.randint(low, high)

    def near(self, end):
        return min(10000, max(0, end + self.chance.randint(-25, 25)))

    def pairs(self):
        count = self.chance.choice((0, 1, 1, 2, 3, 20))
        found = []
        for each in range(count):
            end = self.chance.choice(self.ends)
            # Mostly short pairs beside a few places, so that sets meet, touch and overlap there.
            other = self.near(end) if self.chance.random() < 0.8 else self.chance.choice(self.ends)
            ends = sorted((self.near(end), other))
            found.append(tuple(ends) if ends[0] < ends[1] else (4000, 4020))
        if self.strays():
            found.append((self.number(0, 9), self.number(0, 9)))
        return found

    def text(self, depth):
        if self.strays():
            return self.chance.choice(ODD_WORDS)
        blank = self.chance.choice((" ", " ", "  "))
        word = self.chance.choice(("all", "name", "name", "not", "both", "either", "long"))
        if depth == 0 or word == "name":
            return self.chance.choice(NAMES[:4])
        if word == "all":
            return word
        if word == "not":
            return word + blank + self.text(depth - 1)
        if word == "long":
            n = self.chance.choice((0, 21)) if self.strays() else self.chance.choice((1, 2, 5, 10, 19, 20))
            return word + blank + str(n) + blank + self.text(depth - 1)
        return word + blank + self.text(depth - 1) + blank + self.text(depth - 1)

    def small_text(self, names, depth):
        """A rule of these names that doesn't look far."""
        word = self.chance.choice(("name", "not", "both", "either", "long 1", "long 2", "long 2", "long 3"))
        if depth == 0 or word == "name":
            return self.chance.choice(names)
        if word == "both" or word == "either":
            return f"{word} {self.small_text(names, depth - 1)} {self.small_text(names, depth - 1)}"
        return f"{word} {self.small_text(names, depth - 1)}"

    def text_row(self):
        row = list(self.text(self.chance.choice((1, 2, 3, 9))).encode())[:230]
        if row and self.strays():
            row[self.chance.randrange(len(row))] = self.chance.choice(ODD_BYTES)
        return row

    def telling(self):
        draw = self.number
        kind = self.chance.choice((0, 1, 2, 2, 2, 3, 3, 4, 5, 6, 7))
        if kind == 0:
            return support.defect(self.chance.choice(NAMES), draw(0, 9))
        if kind == 1:
            return support.owner(draw(0, 4), draw(0, 3), draw(0, 3))
        if kind == 2:
            return support.set_on(draw(0, 4), *self.pairs())
        if kind == 3:
            return support.lift(draw(0, 4), draw(0, 3), *self.pairs())
        if kind == 4:
            return support.meter(draw(1, 4), draw(0, 9), *self.pairs())
        if kind == 5:
            b = self.chance.choice((1, 2, 30, 49, 1000))
            return support.live(draw(1, 4), draw(0, b), b, *self.pairs())
        if kind == 6:
            return support.scale(draw(0, 1), draw(1, 4), draw(1, 1000), *self.pairs())
        return support.rule(self.text_row())

    def place(self, most):
        return self.number(most - 5, most) if self.chance.random() < 0.7 else self.number(0, most)

    def asking(self, most):
        draw = self.number
        n = self.place(most)
        kind = self.chance.choice((8, 9, 9, 10, 10, 11, 11, 12, 12, 14, 15, 17, 18, 18, 19, 20))
        if kind == 8:
            return support.shown(draw(0, 3))
        if kind == 9:
            return support.good(draw(1, 3), n)
        if kind == 10:
            return support.lumi(draw(0, 3), draw(0, 1), n)
        if kind == 11:
            return support.part(draw(0, 3), draw(0, 1), n, *self.pairs())
        if kind == 12:
            return support.list_of(draw(0, 3), draw(0, 1), n)
        if kind == 14:
            return support.defect_set(draw(0, 4), n)
        if kind == 15:
            return support.owners(n)
        if kind == 17:
            return support.looks(draw(0, 3))
        if kind == 18:
            return support.changed(draw(1, 3), self.place(most), n)
        if kind == 19:
            return support.worth(draw(0, 1), n, self.near(self.chance.choice(self.ends)))
        return support.counts()

    def retold(self, stretches):
        """The stretches in other words, or wrong in one way."""
        found = [list(stretch) for stretch in stretches]
        way = self.chance.choice(("as it is", "in parts", "scaled", "worth", "gone", "moved", "swapped", "one more"))
        if way == "one more" or not found:
            start = self.near(self.chance.choice(self.ends))
            return sorted(found + [[start, min(10000, start + self.chance.randint(0, 3)), 1, 2]])
        at = self.chance.randrange(len(found))
        start, end, above, below = found[at]
        if way == "in parts":
            middle = self.chance.randint(start, end)
            found[at:at + 1] = [[start, middle, above, below], [middle, end, above, below]]
        elif way == "scaled":
            times = self.chance.choice((2, 3, 10 ** 11))
            found[at] = [start, end, above * times, below * times]
        elif way == "worth":
            found[at] = [start, end, above + self.chance.choice((0, 1)), below + self.chance.choice((0, 1))]
        elif way == "gone":
            found.pop(at)
        elif way == "moved":
            found[at][self.chance.choice((0, 1))] += self.chance.choice((-1, 1))
        elif way == "swapped":
            found[at], found[at - 1] = found[at - 1], found[at]
        return found

    def judging(self, i, k, n, stretches):
        told = stretches
        for each in range(self.chance.randint(0, 2)):
            told = self.retold(told)
        told = told[:100]
        whole = sum(((end - start) * Fraction(above, below) for start, end, above, below in stretches), Fraction(0))
        if max(whole.numerator, whole.denominator) > support.FAR:
            whole = Fraction(1)
        times = self.chance.choice((1, 2)) if max(whole.numerator, whole.denominator) < 10 ** 17 else 1
        more = self.chance.choice((0, 0, 0, 1, -1))
        return support.judge(i, k, n, whole.numerator * times + more, whole.denominator * times, *told)

    def beginning(self):
        calls = [support.defect(name, role) for role, name in enumerate(NAMES[:4])]
        calls += [support.rule("all"), support.rule("long 20 not either a bb")]
        calls.append(support.rule("either both not a long 2 bb both a not long 19 hv"))
        calls += [support.meter(1, 7, (0, 10000)), support.live(1, 2, 3, (0, 9999)), support.scale(0, 1, 6, (1, 10000))]
        return calls


class AgainstModelTest(unittest.TestCase):
    def held(self, calls):
        for call, given, wanted in zip(calls, ask(*calls), model_answers(calls), strict=True):
            self.assertEqual(wanted, given, call)

    def test_tellings_and_askings_mixed(self):
        for seed in range(12):
            line = Line(seed, 0.02)
            calls = line.beginning()
            for each in range(10):
                calls += [line.telling() for step in range(5)]
                calls += [line.asking(12 + 3 * each) for step in range(4)]
            with self.subTest(seed=seed):
                self.held(calls)

    def test_many_tellings_then_askings(self):
        for seed in range(100, 108):
            line = Line(seed, 0.0)
            calls = line.beginning() + [line.telling() for step in range(100)]
            calls += [line.asking(60) for step in range(10)]
            with self.subTest(seed=seed):
                self.held(calls)

    def test_judgings(self):
        said = set()
        for seed in range(500, 520):
            line = Line(seed, 0.0)
            calls = line.beginning() + [line.telling() for step in range(16)]
            model = Model()
            for call in calls:
                model.answer(call)
            for step in range(6):
                i, k, n = line.number(0, 2), line.number(0, 1), line.number(8, 18)
                stretches = support.stretches_in(model.list_of(i, k, n))
                calls += [line.judging(i, k, n, stretches) for each in range(3)]
            with self.subTest(seed=seed):
                self.held(calls)
            said |= {answer[0] for call, answer in zip(calls, ask(*calls)) if call[0] == 13}
        self.assertEqual({0, 1, 2, 3, 4}, said)

    def test_alike(self):
        """Rules of few defects and short longs, each held against the next one."""
        said = set()
        for seed in range(600, 700):
            line = Line(seed, 0.0)
            names = line.chance.choice((("b",), ("b", "d"), ("b", "c", "d"), ("a", "c", "e", "b", "d")))
            calls = [support.defect(name) for name in "abcde"]
            calls += [support.rule(line.small_text(names, 2 + at)) for at in range(4)]
            calls += [support.alike(i, j) for i, j in ((0, 1), (1, 2), (2, 3), (3, 0), (1, 1), (0, 2))]
            with self.subTest(seed=seed):
                self.held(calls)
            said |= {tuple(answer[:2]) for call, answer in zip(calls, ask(*calls)) if call[0] == 16}
        self.assertEqual({(1,), (-9,), (0, 0)}, said)

    def test_tellings_with_many_strays(self):
        for seed in range(200, 500):
            line = Line(seed, 0.15)
            calls = line.beginning()[:4] + [line.telling() for step in range(110)]
            calls += [support.shown(i) for i in range(4)] + [support.owners(20), support.counts()]
            with self.subTest(seed=seed):
                self.held(calls)


if __name__ == "__main__":
    unittest.main()
