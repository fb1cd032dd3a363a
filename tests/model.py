"""The document read word for word and block by block, slowly: what the program is held against."""

from collections import Counter
from fractions import Fraction
from itertools import product

KEYWORDS = ("all", "not", "both", "either", "long")
BLOCKS = range(10000)


class Refusal(Exception):
    pass


class Fault(Exception):
    pass


def need(holds, code):
    if not holds:
        raise Refusal(code)


def is_name(word):
    return 1 <= len(word) <= 8 and all(97 <= byte <= 122 for byte in word) and bytes(word).decode() not in KEYWORDS


def row_set(row):
    need(len(row) % 2 == 0 and len(row) <= 40, -1)
    members = set()
    for start, end in zip(row[::2], row[1::2]):
        need(0 <= start < end <= 10000, -1)
        members.update(range(start, end))
    return members


def words_in(text):
    """(place, word as bytes) of each word."""
    found = []
    place = 0
    for word in bytes(text).split(b" "):
        if word:
            found.append((place, word))
        place += len(word) + 1
    return found


class Reader:
    """A rule as nested tuples, by descent."""

    def __init__(self, text, names):
        self.text = text
        self.names = names
        self.words = words_in(text)
        self.at = 0

    def word(self):
        if self.at == len(self.words):
            raise Fault(1, len(self.text))
        self.at += 1
        return self.words[self.at - 1]

    def number(self):
        place, word = self.word()
        digits = all(48 <= byte <= 57 for byte in word)
        if not digits or len(word) > 7 or (len(word) > 1 and word[:1] == b"0"):
            raise Fault(1, place)
        if int(word) not in range(1, 21):
            raise Fault(2, place)
        return int(word)

    def rule(self, around):
        place, word = self.word()
        if around == 8:
            raise Fault(4, place)
        if word == b"all":
            return ("all",)
        if word == b"not":
            return ("not", self.rule(around + 1))
        if word in (b"both", b"either"):
            first = self.rule(around + 1)
            return (word.decode(), first, self.rule(around + 1))
        if word == b"long":
            count = self.number()
            return ("long", count, self.rule(around + 1))
        if not is_name(word):
            raise Fault(1, place)
        if word.decode() not in self.names:
            raise Fault(3, place)
        return ("name", self.names.index(word.decode()))

    def whole(self):
        made = self.rule(0)
        if self.at < len(self.words):
            raise Fault(1, self.words[self.at][0])
        return made


def stands_long(inner, b, least):
    """Whether block b stands in a run of at least so many blocks of which inner is true."""
    count = 0
    for step in (-1, 1):
        at = b
        while count < least + 1 and 0 <= at < len(inner) and inner[at]:
            count += 1
            at += step
    # b itself was counted both ways.
    return count - 1 >= least


def lets(tree, has, blocks=BLOCKS):
    """Of each block, whether the rule lets it; has(d, block) tells defects."""
    if tree[0] == "all":
        return [True for b in blocks]
    if tree[0] == "name":
        return [has(tree[1], b) for b in blocks]
    inner = [lets(part, has, blocks) for part in tree[1:] if isinstance(part, tuple)]
    if tree[0] == "not":
        return [not inner[0][b] for b in blocks]
    if tree[0] == "both":
        return [inner[0][b] and inner[1][b] for b in blocks]
    if tree[0] == "either":
        return [inner[0][b] or inner[1][b] for b in blocks]
    return [inner[0][b] and stands_long(inner[0], b, tree[1]) for b in blocks]


def reach(tree):
    """How far a rule looks."""
    inner = max([reach(part) for part in tree[1:] if isinstance(part, tuple)], default=0)
    return inner + tree[1] - 1 if tree[0] == "long" else inner


def named(tree):
    """The defects that stand in a rule."""
    if tree[0] == "name":
        return {tree[1]}
    return set().union(*[named(part) for part in tree[1:] if isinstance(part, tuple)])


def first_case(one, other):
    """The first case that parts two rules: on the left, on the right, each block's defects; or None."""
    far = max(reach(one), reach(other))
    defects = sorted(named(one) | named(other))
    ends = [(0, 0)] + [(count, 0) for count in range(1, far + 1)] + [(0, count) for count in range(1, far + 1)]
    for left, right in ends:
        marks = list(product((False, True), repeat=len(defects)))
        for case in product(marks, repeat=2 * far + 1 - left - right):
            def has(d, b):
                return case[b][defects.index(d)]

            middle = far - left
            if lets(one, has, range(len(case)))[middle] != lets(other, has, range(len(case)))[middle]:
                return left, right, [[d for d in defects if has(d, b)] for b in range(len(case))]
    return None


def shape(members):
    """A set as it is answered, from its blocks in order."""
    pairs = []
    for b in members:
        if pairs and pairs[-1] == b:
            pairs[-1] = b + 1
        else:
            pairs += [b, b + 1]
    return [len(members), len(pairs) // 2, *pairs]


class Model:
    def __init__(self):
        self.told = []

    def kinds(self, kind, n=None):
        return [writing for writing in self.told[:n] if writing[0] == kind]

    def write(self, *writing):
        need(len(self.told) < 100, -8)
        self.told.append(writing)
        return len(self.told)

    def check_defect(self, d):
        need(0 <= d < len(self.kinds("defect")), -2)

    def check_owner(self, d, by):
        owners = [self.kinds("defect")[d][2]] + [writing[2] for writing in self.kinds("owner") if writing[1] == d]
        need(by in (0, owners[-1]), -6)

    def defect(self, role, row):
        need(role in range(10) and is_name(row), -1)
        name = bytes(row).decode()
        count = len(self.kinds("defect"))
        need(name not in [writing[1] for writing in self.kinds("defect")], -3)
        need(count < 8, -8)
        return [count, self.write("defect", name, role)]

    def owner(self, d, by, role):
        need(by in range(10) and role in range(10), -1)
        self.check_defect(d)
        self.check_owner(d, by)
        return [self.write("owner", d, role)]

    def set_on(self, d, row):
        members = row_set(row)
        self.check_defect(d)
        return [self.write("mark", d, True, members)]

    def lift(self, d, by, row):
        need(by in range(10), -1)
        members = row_set(row)
        self.check_defect(d)
        self.check_owner(d, by)
        return [self.write("mark", d, False, members)]

    def meter(self, version, v, row):
        need(version in range(1, 10000) and v in range(10000), -1)
        return [self.write("meter", (version, v), row_set(row))]

    def live(self, version, a, b, row):
        need(version in range(1, 10000) and b in range(1, 1001) and 0 <= a <= b, -1)
        return [self.write("live", (version, a, b), row_set(row))]

    def scale(self, k, version, p, row):
        need(k in range(4) and version in range(1, 10000) and p in range(1, 1001), -1)
        return [self.write(f"scale{k}", (version, p), row_set(row))]

    def rule(self, row):
        need(len(row) <= 200 and all(byte in range(256) for byte in row), -1)
        try:
            tree = Reader(row, [writing[1] for writing in self.kinds("defect")]).whole()
        except Fault as fault:
            raise Refusal(-1000 * fault.args[0] - fault.args[1])
        count = len(self.kinds("rule"))
        need(count < 10, -8)
        return [count, self.write("rule", tree, b" ".join(word for place, word in words_in(row)))]

    def check_rule(self, i, n):
        need(0 <= i < len(self.kinds("rule")), -2)
        need(n <= len(self.told), -7)

    def shown(self, i):
        self.check_rule(i, 0)
        text = self.kinds("rule")[i][2]
        return [len(text), *text]

    def has_defect(self, n):
        marks = {}
        for writing in self.kinds("mark", n):
            for b in writing[3]:
                marks[writing[1], b] = writing[2]
        return lambda d, b: marks.get((d, b), False)

    def good_blocks(self, i, n):
        let = lets(self.kinds("rule")[i][1], self.has_defect(n))
        return [b for b in BLOCKS if let[b]]

    def good(self, i, n):
        need(n in range(101), -1)
        self.check_rule(i, n)
        return shape(self.good_blocks(i, n))

    def counting(self, kind, n):
        best = {}
        for writing in self.kinds(kind, n):
            for b in writing[2]:
                best[b] = max(best.get(b, writing[1]), writing[1])
        return best

    def worths(self, k, n):
        """What each block that doesn't lack is worth."""
        meters = self.counting("meter", n)
        lives = self.counting("live", n)
        scales = self.counting(f"scale{k}", n)
        return {b: Fraction(meters[b][1] * lives[b][1], lives[b][2] * scales[b][1])
                for b in BLOCKS if b in meters and b in lives and b in scales}

    def luminosity(self, members, k, n):
        worths = self.worths(k, n)
        found = Counter(worths[b] for b in members if b in worths)
        total = sum((worth * count for worth, count in found.items()), Fraction(0))
        return [total.numerator, total.denominator, len(members), len(members) - found.total()]

    def lumi(self, i, k, n):
        need(k in range(4) and n in range(101), -1)
        self.check_rule(i, n)
        return self.luminosity(self.good_blocks(i, n), k, n)

    def part(self, i, k, n, row):
        need(k in range(4) and n in range(101), -1)
        members = row_set(row)
        self.check_rule(i, n)
        return self.luminosity([b for b in self.good_blocks(i, n) if b in members], k, n)

    def good_worths(self, i, k, n):
        worths = self.worths(k, n)
        return {b: worths[b] for b in self.good_blocks(i, n) if b in worths}

    def list_of(self, i, k, n):
        need(k in range(4) and n in range(101), -1)
        self.check_rule(i, n)
        worths = self.good_worths(i, k, n)
        found = []
        for b in sorted(worths):
            if b - 1 in worths and worths[b - 1] == worths[b]:
                found[-3] = b + 1
            else:
                found += [b, b + 1, worths[b].numerator, worths[b].denominator]
        return [len(found) // 4, *found]

    def judge(self, i, k, n, a, b, row):
        need(k in range(4) and n in range(101) and b >= 1 and len(row) % 4 == 0, -1)
        stretches = [row[at:at + 4] for at in range(0, len(row), 4)]
        for start, end, above, below in stretches:
            need(0 <= start <= 10000 and 0 <= end <= 10000 and above >= 0 and below >= 1, -1)
        self.check_rule(i, n)
        ends = [0] + [stretch[1] for stretch in stretches]
        if any(stretch[0] >= stretch[1] or stretch[0] < end for stretch, end in zip(stretches, ends)):
            return [3, 0]
        worths = self.good_worths(i, k, n)
        told = {block: Fraction(*stretch[2:]) for stretch in stretches for block in range(stretch[0], stretch[1])}
        for block in BLOCKS:
            if (block in told) != (block in worths):
                return [1, block]
        for stretch in stretches:
            if any(told[block] != worths[block] for block in range(stretch[0], stretch[1])):
                return [4, stretch[0]]
        if sum(told.values(), Fraction(0)) != Fraction(a, b):
            return [2, 0]
        return [0, 0]

    def defect_set(self, d, n):
        need(n in range(101), -1)
        self.check_defect(d)
        need(n <= len(self.told), -7)
        has = self.has_defect(n)
        return shape([b for b in BLOCKS if has(d, b)])

    def owners(self, n):
        need(n in range(101), -1)
        need(n <= len(self.told), -7)
        by_then = len(self.kinds("defect", n))
        found = []
        for d, writing in enumerate(self.kinds("defect")):
            told = [writing[2]] + [each[2] for each in self.kinds("owner", n) if each[1] == d]
            found.append(told[-1] if d < by_then else -1)
        return [len(found), *found]

    def alike(self, i, j):
        self.check_rule(i, 0)
        self.check_rule(j, 0)
        one, other = self.kinds("rule")[i][1], self.kinds("rule")[j][1]
        width = 2 * max(reach(one), reach(other)) + 1
        need(width * max(1, len(named(one) | named(other))) <= 10, -9)
        case = first_case(one, other)
        if case is None:
            return [1]
        left, right, blocks = case
        return [0, left, right, len(blocks)] + [number for block in blocks for number in (len(block), *block)]

    def looks(self, i):
        self.check_rule(i, 0)
        tree = self.kinds("rule")[i][1]
        return [reach(tree), len(named(tree)), *sorted(named(tree))]

    def changed(self, i, m, n):
        need(m in range(101) and n in range(101), -1)
        self.check_rule(i, max(m, n))
        return shape(sorted(set(self.good_blocks(i, m)) ^ set(self.good_blocks(i, n))))

    def worth(self, k, n, b):
        need(k in range(4) and n in range(101) and b in BLOCKS, -1)
        need(n <= len(self.told), -7)
        worths = self.worths(k, n)
        return [1, worths[b].numerator, worths[b].denominator] if b in worths else [0]

    def counts(self):
        scales = sum(len(self.kinds(f"scale{k}")) for k in range(4))
        return [len(self.told), len(self.kinds("defect")), len(self.kinds("mark")), len(self.kinds("meter")),
                len(self.kinds("live")), scales, len(self.kinds("rule"))]

    def answer(self, call):
        methods = (self.defect, self.owner, self.set_on, self.lift, self.meter, self.live, self.scale, self.rule,
                   self.shown, self.good, self.lumi, self.part, self.list_of, self.judge, self.defect_set, self.owners,
                   self.alike, self.looks, self.changed, self.worth, self.counts)
        counts = (1, 3, 1, 2, 2, 3, 3, 0, 1, 2, 3, 3, 3, 5, 2, 1, 2, 1, 3, 3, 0)
        count = counts[call[0]]
        numbers = call[1:1 + count]
        rows = [call[2 + count:]] if call[0] in (0, 2, 3, 4, 5, 6, 7, 11, 13) else []
        try:
            return methods[call[0]](*numbers, *rows)
        except Refusal as refusal:
            return [refusal.args[0]]


def model_answers(calls):
    model = Model()
    return [model.answer(call) for call in calls]
